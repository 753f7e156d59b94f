/-
  foundryref11.ReadPoints: the walk.
  packed.ReadPoints, packed.ReadChanges: the walks; what the laws of layer 11 ask of the code (CodP).
  tuples.putPacked, tuples.putTuple, tuples.Write: the walks.
-/
import Derived.Test.YtngmcghmniakeaaGreatZY26
import Derived.Test.YtngmcghmniakeaaGreatZY27
import Derived.Test.YtngmcghmniakeaaGreatZY16
import Derived.Test.YtngmcghmniakeaaGreatZY23
set_option maxHeartbeats 16000000
set_option maxRecDepth 100000
set_option linter.unusedSimpArgs false
set_option linter.unusedVariables false
namespace Go.Proofs.YtngmcghmniakeaaGreat
open Go.RowKit Go.Maps
def mOk (v : Value) (k : Nat) : Nat := match v with | .bool true => k + 1 | _ => 0
theorem sums_snoc (ds : List Int) (d : Int) : sums 0 (ds ++ [d]) = sums 0 ds ++ [lastS 0 ds + d] := by rw [sums_append]; rfl
theorem lastS_snoc (ds : List Int) (d : Int) : lastS 0 (ds ++ [d]) = lastS 0 ds + d := by rw [lastS_append]; rfl
theorem rp_none {b : List Nat} (h : rpO b = none) : rpL b = [] ∧ rpN b = 0 ∧ rpE b = 2 := by unfold rpL rpN rpE; rw [h]; exact ⟨rfl, rfl, rfl⟩
theorem rp_bad1 {b : List Nat} (h : ptO b = false) : rpO b = none := by rw [rpO, h]; rfl
theorem rp_bad2 {b : List Nat} (h : rdF RPt b (ptN b) (ptA b) (ptN b) = none) : rpO b = none := by rw [rpO, h]; split <;> rfl
theorem rp_end {b : List Nat} {ds : List Int} {p : Nat} (h0 : ptO b = true) (h : rdF RPt b (ptN b) (ptA b) (ptN b) = some (ds, p)) : rpO b = if ptB (sums 0 ds) then some (sums 0 ds, p) else none := by rw [rpO, h0, h]; rfl
theorem ptN_le {b : List Nat} (hb : Byt b) : ptN b ≤ 32767 := by
 have h0 := nmV_lt hb 0 1
 have h1 := nmV_lt hb 1 1
 unfold ptN
 split <;> omega
theorem sReadPointsL_any (a : Option Addr) (cap : Nat) (b : List Nat) (w : World) (h : Rb w a cap b) (hbl : b.length ≤ 1000000000) :
    Calls Tryz.prog 107 #[.slice a b.length cap] w fun e w' => ∃ a' c', e = .returned (.tuple #[.slice a' (rpL b).length c', .int .i64 (rpN b), .int .i64 (rpE b)]) ∧ Ri w' a' c' (rpL b) ∧ (∀ b o, a' = some ⟨b, o, none⟩ → w.heap.size ≤ b) ∧ (a' = none → c' = 0) ∧ Below w.heap.size w w' := by
 have HRB : Hid (Rb w a cap b) := h
 have hu := su8_any a cap b 0 w h ⟨by decide, by decide⟩
 have hu1 := su8_any a cap b 1 w h ⟨by decide, by decide⟩
 have hlt0 := nmV_lt h.lim 0 1
 have hlt1 := nmV_lt h.lim 1 1
 have hNN := ptN_le h.lim
 have i0 : inB b.length 0 1 = decide (1 ≤ b.length) := inB_nat (p := 0) (n := 1)
 have i1 : inB b.length 1 1 = decide (2 ≤ b.length) := inB_nat (p := 1) (n := 1)
 rw [i0] at hu; rw [i1] at hu1
 obtain ⟨x0, hx0⟩ : ∃ x, nmV b 0 1 = x := ⟨_, rfl⟩
 obtain ⟨x1, hx1⟩ : ∃ x, nmV b 1 1 = x := ⟨_, rfl⟩
 have HX : Hid (nmV b 0 1 = x0 ∧ nmV b 1 1 = x1) := ⟨hx0, hx1⟩
 rw [hx0] at hu hlt0; rw [hx1] at hu1 hlt1; clear h i0 i1 hx0 hx1
 simp only [Nat.pow_one] at hlt0 hlt1
 go_enter Tryz.func107, Tryz.ntmps107
 go_wp2_with fail
 refine hu.mono ?_
 rintro e w1 ⟨rfl, rfl⟩; clear hu
 go_upto_if 25 with fail
 go_cut [5, 6, 7] from 19 to 36 (fun s5 s6 s7 wx => s5 = .int .i64 (ptN b : Int) ∧ s6 = .bool (ptO b) ∧ s7 = .int .i64 (ptA b : Int) ∧ w = wx)
 case first =>
  by_cases h128 : 128 ≤ x0
  · have HC : Hid (ptN b = (x0 - 128) * 256 + x1 ∧ ptO b = decide (2 ≤ b.length) ∧ ptA b = 2) := by
      unfold ptO ptN ptA
      rw [HX.out.1, HX.out.2, if_pos h128, if_pos h128]
      exact ⟨rfl, rfl, rfl⟩
    have g1 : (128 : Int) ≤ (x0 : Int) := by omega
    obtain ⟨N, hN⟩ : ∃ N : Nat, N = (x0 - 128) * 256 + x1 := ⟨_, rfl⟩
    have e1 : ((x0 : Int) - 128) * 256 + (x1 : Int) = (N : Int) := by omega
    have HN : Hid (ptN b = N) := by show _ = _; rw [HC.out.1, hN]
    generalize decide (2 ≤ b.length) = ok at *
    clear hN
    go_wp2_with fail
    refine hu1.mono ?_
    rintro e w1 ⟨rfl, rfl⟩; clear hu1; go_wp2
    go_meet
    exact ⟨by rw [HN.out], by rw [HC.out.2.1], by rw [HC.out.2.2]; rfl, rfl⟩
  · have HC : Hid (ptN b = x0 ∧ ptO b = decide (1 ≤ b.length) ∧ ptA b = 1) := by
      unfold ptO ptN ptA
      rw [HX.out.1, HX.out.2, if_neg h128, if_neg h128]
      exact ⟨rfl, rfl, rfl⟩
    have g1 : ¬ (128 : Int) ≤ (x0 : Int) := by omega
    generalize decide (1 ≤ b.length) = ok at *
    clear hu1; go_wp2
    go_meet
    exact ⟨by rw [HC.out.1], by rw [HC.out.2.1], by rw [HC.out.2.2]; rfl, rfl⟩
 case rest =>
 obtain ⟨rfl, rfl, rfl, rfl⟩ := hcut; clear hu1 hlt0 hlt1 HX
 have HPO : Hid (ptO b = false → rpO b = none) := rp_bad1
 have HPA : Hid (ptO b = true → ptA b ≤ b.length) := fun h => of_decide_eq_true h
 obtain ⟨N, hN⟩ : ∃ N, ptN b = N := ⟨_, rfl⟩
 obtain ⟨A, hA⟩ : ∃ A, ptA b = A := ⟨_, rfl⟩
 have HBZ : Hid (rdF RPt b N A N = none → rpO b = none) := fun h => rp_bad2 (by rw [hN, hA]; exact h)
 have HEN : Hid (∀ ds p, ptO b = true → rdF RPt b N A N = some (ds, p) → rpO b = if ptB (sums 0 ds) then some (sums 0 ds, p) else none) := fun ds p h0 h => rp_end h0 (by rw [hN, hA]; exact h)
 rw [hA] at HPA; rw [hN] at hNN; rw [hN, hA]; clear hN hA
 generalize hO : ptO b = O at *
 go_wp2
 go_loopw [6, 7, 10, 11] (fun okv pp v lv wr => (∃ (ds : List Int) (p : Nat) (r : Int), O = true ∧ ds.length ≤ N ∧ p ≤ b.length ∧ okv = .bool true ∧ pp = .int .i64 (p : Int) ∧ lv = .int .i64 r ∧ r = lastS 0 ds ∧ 0 ≤ r ∧ r ≤ 65535 * (ds.length : Int) ∧ rdF RPt b N A N = onto ds (rdF RPt b (N - ds.length) p (N - ds.length)) ∧ Io w.heap.size wr v (sums 0 ds) ∧ Below w.heap.size w wr) ∨ (∃ (ys : List Int) (p r : Int), okv = .bool false ∧ pp = .int .i64 p ∧ lv = .int .i64 r ∧ rpO b = none ∧ Io w.heap.size wr v ys ∧ Below w.heap.size w wr)) (fun okv pp _ _ _ => mOk okv (b.length - (intOf pp).toNat))
 case atStart =>
  cases O with
  | true => exact .inl ⟨[], A, 0, rfl, Nat.zero_le _, HPA.out rfl, rfl, rfl, rfl, rfl, Int.le_refl _, by simp, by rw [onto_nil]; rfl, Io.nil _ _, Below.refl _ _⟩
  | false => exact .inr ⟨[], _, _, rfl, rfl, rfl, HPO.out rfl, Io.nil _ _, Below.refl _ _⟩
 case round =>
  rcases hrel with ⟨ds, p, r, rfl, hz, hp, rfl, rfl, rfl, hr, hr0, hr1, ho, hIo, hbW⟩ | ⟨ys, p, r, rfl, rfl, rfl, hno, hIo, hbW⟩
  rotate_left
  · have HNO : Hid (_) := rp_none hno
    obtain ⟨av, cv, rfl, _⟩ := hIo.slice; clear hno
    by_cases hyn : (ys.length : Int) < (N : Int)
    · go_wp2
      go_ret3
      exact ⟨none, 0, by rw [HNO.out.1, HNO.out.2.1, HNO.out.2.2]; rfl, by rw [HNO.out.1]; exact Ri.nil _ _ _ (Nat.zero_le _), (fun _ _ e => by cases e), (fun _ => rfl), hbW⟩
    · go_wp2
      go_ret3
      exact ⟨none, 0, by rw [HNO.out.1, HNO.out.2.1, HNO.out.2.2]; rfl, by rw [HNO.out.1]; exact Ri.nil _ _ _ (Nat.zero_le _), (fun _ _ e => by cases e), (fun _ => rfl), hbW⟩
  have HR : Hid (r = lastS 0 ds) := hr
  have HOO : Hid (rdF RPt b N A N = onto ds (rdF RPt b (N - ds.length) p (N - ds.length))) := ho
  clear ho hr; obtain ⟨av, cv, rfl, hri, hlo⟩ := hIo.sliceL
  have HLO : Hid (_) := hlo
  clear hlo
  have hsl := sums_len 0 ds
  rw [hsl] at hIo ⊢
  by_cases hzn : ds.length < N
  rotate_left
  · have HZ : Hid (rdF RPt b N A N = some (ds, p)) := by
      show _ = _
      rw [HOO.out, show N - ds.length = 0 by omega, rdF_zero]
      simp [onto]
    have HE : Hid (_) := HEN.out ds p rfl HZ.out
    have hpt := spoints_any av cv (sums 0 ds) wr hri
    rw [hsl] at hpt
    have g1 : ¬ (ds.length : Int) < (N : Int) := by omega
    clear HZ HOO
    cases hB : ptB (sums 0 ds) with
    | false =>
     have HNO : Hid (_) := rp_none (HE.out.trans (by rw [hB]; rfl))
     rw [hB] at hpt; clear hB
     go_wp2_with fail
     refine hpt.mono ?_
     rintro e u2 ⟨rfl, hb2⟩
     replace hbW := hbW.trans (hb2.mono hbW.size)
     clear hpt hb2; go_wp2
     go_ret3
     exact ⟨none, 0, by rw [HNO.out.1, HNO.out.2.1, HNO.out.2.2]; rfl, by rw [HNO.out.1]; exact Ri.nil _ _ _ (Nat.zero_le _), (fun _ _ e => by cases e), (fun _ => rfl), hbW⟩
    | true =>
     have HY : Hid (rpL b = sums 0 ds ∧ rpN b = (p : Int) ∧ rpE b = 0) := by
      have := HE.out
      rw [hB] at this
      unfold rpL rpN rpE
      rw [this]
      exact ⟨rfl, rfl, rfl⟩
     have HSL : Hid ((sums 0 ds).length = ds.length) := hsl
     rw [hB] at hpt; clear hB hsl
     go_wp2_with fail
     refine hpt.mono ?_
     rintro e u2 ⟨rfl, hb2⟩
     replace hbW := hbW.trans (hb2.mono hbW.size)
     replace hri := hri.below hb2; clear hpt hb2; go_wp2
     go_ret3
     exact ⟨av, cv, by rw [HY.out.1, HY.out.2.1, HY.out.2.2, HSL.out]; rfl, by rw [HY.out.1]; exact hri, HLO.out.1, HLO.out.2, hbW⟩
  have HSL : Hid ((sums 0 ds).length = ds.length) := hsl
  clear hsl hri
  have hrb := HRB.out.below hbW
  have hu := su8_any a cap b (p : Int) wr hrb ⟨by omega, by omega⟩
  have hlt := nmV_lt hrb.lim (p : Int) 1
  rw [show inB b.length (p : Int) 1 = decide (p + 1 ≤ b.length) from inB_nat (n := 1)] at hu
  obtain ⟨h, hh⟩ : ∃ h, nmV b (p : Int) 1 = h := ⟨_, rfl⟩
  have HH : Hid (nmV b (p : Int) 1 = h) := hh
  rw [hh] at hu hlt
  have hlt : h < 256 := hlt
  have HBD : Hid (¬ (p + 1 ≤ b.length ∧ h % 128 + 1 ≤ N - ds.length ∧ p + 1 + (h % 128 + 1) * szP (h / 128) ≤ b.length) → rpO b = none) := fun hx => HBZ.out (by
   rw [HOO.out, rdF_bad (by omega) (by rw [hdB, HH.out]; exact decide_eq_false (fun hy => hx ⟨hy.1, hy.2.2⟩))]
   rfl)
  have HST : Hid ((p + 1 ≤ b.length ∧ h % 128 + 1 ≤ N - ds.length ∧ p + 1 + (h % 128 + 1) * szP (h / 128) ≤ b.length) → rdF RPt b N A N = onto (ds ++ runV RPt b (h / 128) (p + 1) (h % 128 + 1)) (rdF RPt b (N - ds.length - (h % 128 + 1)) (p + 1 + (h % 128 + 1) * szP (h / 128)) (N - ds.length - (h % 128 + 1)))) := fun hx => by
   rw [HOO.out, rdF_step (c := h % 128 + 1) (kd := h / 128) (by rw [hdB, HH.out]; exact decide_eq_true ⟨hx.1, hlt, hx.2⟩) (by rw [HH.out]; rfl) (by rw [HH.out]; rfl), onto_onto]
   rfl
  obtain ⟨m, hm⟩ : ∃ m, h % 128 = m := ⟨_, rfl⟩
  have hmi : (h : Int) % 128 = (m : Int) := by omega
  rw [hm] at HBD HST
  have hm128 : m < 128 := by omega
  have g1 : (ds.length : Int) < (N : Int) := by omega
  clear hh HOO
  obtain ⟨fb, hfb⟩ : ∃ fb, decide (p + 1 ≤ b.length) = fb := ⟨_, rfl⟩
  rw [hfb] at hu
  go_wp2_with fail
  refine hu.mono ?_
  rintro e w1 ⟨rfl, rfl⟩; clear hu
  go_upto_region 14 with fail
  go_cut [6] from 37 to 99 (fun s6 wx => s6 = .bool (decide (p + 1 ≤ b.length ∧ m + 1 ≤ N - ds.length)) ∧ wr = wx)
  case first =>
   cases fb with
   | false =>
    have HF : Hid (decide (p + 1 ≤ b.length ∧ m + 1 ≤ N - ds.length) = false) := decide_eq_false (fun hx => (of_decide_eq_false hfb) hx.1)
    clear hfb; go_wp2
    go_meet
    exact ⟨by rw [HF.out], rfl⟩
   | true =>
    by_cases h3 : m + 1 ≤ N - ds.length
    · have HF : Hid (decide (p + 1 ≤ b.length ∧ m + 1 ≤ N - ds.length) = true) := decide_eq_true ⟨of_decide_eq_true hfb, h3⟩
      have g3 : (m : Int) + 1 ≤ (N : Int) - (ds.length : Int) := by omega
      clear hfb; go_wp2
      go_meet
      exact ⟨by rw [HF.out], rfl⟩
    · have HF : Hid (decide (p + 1 ≤ b.length ∧ m + 1 ≤ N - ds.length) = false) := decide_eq_false (fun hx => h3 hx.2)
      have g3 : ¬ (m : Int) + 1 ≤ (N : Int) - (ds.length : Int) := by omega
      clear hfb; go_wp2
      go_meet
      exact ⟨by rw [HF.out], rfl⟩
  case rest =>
  obtain ⟨rfl, rfl⟩ := hcut; clear hfb
  generalize hcc : decide (p + 1 ≤ b.length ∧ m + 1 ≤ N - ds.length) = cc at *
  have HCC : Hid (decide (p + 1 ≤ b.length ∧ m + 1 ≤ N - ds.length) = cc) := hcc
  clear hcc; go_wp2
  go_loopw [6, 7, 10, 11, 15] (fun okv pp v lv kk wr => (∃ (j q : Nat) (r : Int), j ≤ m + 1 ∧ q = p + 1 + j * szP (h / 128) ∧ q ≤ b.length ∧ m + 1 ≤ N - ds.length ∧ okv = .bool true ∧ pp = .int .i64 (q : Int) ∧ lv = .int .i64 r ∧ r = lastS 0 (ds ++ runV RPt b (h / 128) (p + 1) j) ∧ 0 ≤ r ∧ r ≤ 65535 * ((ds.length : Int) + (j : Int)) ∧ kk = .int .i64 (j : Int) ∧ Io w.heap.size wr v (sums 0 (ds ++ runV RPt b (h / 128) (p + 1) j)) ∧ Below w.heap.size w wr) ∨ (∃ (ys : List Int) (p r : Int) (j : Nat), okv = .bool false ∧ pp = .int .i64 p ∧ lv = .int .i64 r ∧ kk = .int .i64 (j : Int) ∧ rpO b = none ∧ Io w.heap.size wr v ys ∧ Below w.heap.size w wr)) (fun okv _ _ _ kk _ => mOk okv (m + 1 - (intOf kk).toNat))
  case atStart =>
   cases cc with
   | true =>
    have hcc := of_decide_eq_true HCC.out
    exact .inl ⟨0, p + 1, r, Nat.zero_le _, by rw [Nat.zero_mul], hcc.1, hcc.2, rfl, by go_num, rfl, by rw [show runV RPt b (h / 128) (p + 1) 0 = [] from rfl, List.append_nil]; exact HR.out, hr0, by rw [show ((0 : Nat) : Int) = 0 from rfl, Int.add_zero]; exact hr1, rfl, by rw [show runV RPt b (h / 128) (p + 1) 0 = [] from rfl, List.append_nil]; exact hIo, hbW⟩
   | false =>
    have hcc := of_decide_eq_false HCC.out
    exact .inr ⟨_, _, _, 0, rfl, rfl, rfl, rfl, HBD.out (fun hx => hcc ⟨hx.1, hx.2.1⟩), hIo, hbW⟩
  case round =>
   clear hIo hbW hr0 hr1 HR HCC
   rcases hrel with ⟨j, q, r, hj, hq, hql, h3, rfl, rfl, rfl, hr, hr0, hr1, rfl, hIo, hbW⟩ | ⟨ys, p1, r, j, rfl, rfl, rfl, rfl, hno, hIo, hbW⟩
   rotate_left
   · have HNO : Hid (rpO b = none) := hno
     clear hno
     by_cases hjm : (j : Int) < (m : Int) + 1
     · go_wp2
       go_roundw
       case rel => exact .inr ⟨_, _, _, rfl, rfl, rfl, HNO.out, hIo, hbW⟩
       case measure => simp [intOf, mOk]
     · go_wp2
       go_roundw
       case rel => exact .inr ⟨_, _, _, rfl, rfl, rfl, HNO.out, hIo, hbW⟩
       case measure => simp [intOf, mOk]
   have HQ : Hid (q = p + 1 + j * szP (h / 128)) := hq
   have HR : Hid (r = lastS 0 (ds ++ runV RPt b (h / 128) (p + 1) j)) := hr
   clear hq hr; obtain ⟨a4, c4, rfl, _⟩ := hIo.slice
   have hlen : (ds ++ runV RPt b (h / 128) (p + 1) j).length = ds.length + j := by rw [List.length_append, runV_len]
   have h1 : p + 1 ≤ b.length := by rw [HQ.out] at hql; omega
   by_cases hjm : j ≤ m
   rotate_left
   · obtain rfl : j = m + 1 := by omega
     have HS : Hid (_) := HST.out ⟨h1, h3, by rw [← HQ.out]; exact hql⟩
     have hpq : p < q := by rw [HQ.out]; omega
     have g4 : ¬ (((m + 1 : Nat) : Nat) : Int) < (m : Int) + 1 := by omega
     have HRL : Hid (rdF RPt b N A N = onto (ds ++ runV RPt b (h / 128) (p + 1) (m + 1)) (rdF RPt b (N - (ds ++ runV RPt b (h / 128) (p + 1) (m + 1)).length) q (N - (ds ++ runV RPt b (h / 128) (p + 1) (m + 1)).length))) := by
      show _ = _
      rw [HS.out, hlen, HQ.out, show N - (ds.length + (m + 1)) = N - ds.length - (m + 1) by omega]
     go_wp2
     go_roundw
     case rel => exact .inl ⟨_, q, r, by first | trivial | rfl, by rw [hlen]; omega, hql, rfl, rfl, rfl, HR.out, hr0, by rw [hlen]; omega, HRL.out, hIo, hbW⟩
     case measure => simp [intOf, mOk]; omega
   have g4 : (j : Int) < (m : Int) + 1 := by omega
   have hrb := HRB.out.below hbW
   have HSC : Hid (ds ++ runV RPt b (h / 128) (p + 1) (j + 1) = (ds ++ runV RPt b (h / 128) (p + 1) j) ++ [vlP b (h / 128) q]) := by
    show _ = _
    rw [runV_succ, ← List.append_assoc, HQ.out]
    rfl
   have HQ2 : Hid (p + 1 + (j + 1) * szP (h / 128) = q + szP (h / 128)) := by show _ = _; rw [HQ.out, Nat.add_mul, Nat.one_mul]; omega
   have HBD2 : Hid (b.length < q + szP (h / 128) → rpO b = none) := fun hx => HBD.out (fun hy => by
    have h5 := hy.2.2
    have h6 : (j + 1) * szP (h / 128) ≤ (m + 1) * szP (h / 128) := Nat.mul_le_mul_right _ (by omega)
    have h7 := HQ2.out
    omega)
   have hsl : (sums 0 (ds ++ runV RPt b (h / 128) (p + 1) j)).length = ds.length + j := by rw [sums_len, hlen]
   have hll : (sums 0 (ds ++ runV RPt b (h / 128) (p + 1) j)).length + 1 ≤ 1000000 := by rw [hsl]; omega
   clear HBD HST hlen hsl
   obtain ⟨es, hes⟩ : ∃ es, ds ++ runV RPt b (h / 128) (p + 1) j = es := ⟨_, rfl⟩
   obtain ⟨ys, hys⟩ : ∃ ys, sums 0 es = ys := ⟨_, rfl⟩
   have HYS : Hid (sums 0 es = ys) := hys
   rw [hes] at HSC HR hIo hll ⊢; rw [hys] at hIo hll ⊢; clear hys hes
   obtain ⟨kd, hkd⟩ : ∃ k, h / 128 = k := ⟨_, rfl⟩
   have HKD : Hid (h / 128 = kd) := hkd
   rw [hkd] at HQ2 HBD2
   rw [show vlP b (h / 128) q = vlP b kd q by rw [hkd]] at HSC
   rcases (by omega : kd = 0 ∨ kd = 1) with h0 | h0
   · have gk : (h : Int) / 128 = 0 := by omega
     rw [h0, show szP 0 = 1 from rfl] at HQ2 HBD2
     rw [h0] at HKD
     rw [h0, show vlP b 0 q = ((nmV b (q : Int) 1 : Nat) : Int) from rfl] at HSC
     clear hkd h0
     have hu := su8_any a cap b (q : Int) wr hrb ⟨by omega, by omega⟩
     have hlt2 := nmV_lt hrb.lim (q : Int) 1
     rw [show inB b.length (q : Int) 1 = decide (q + 1 ≤ b.length) from inB_nat (n := 1)] at hu
     obtain ⟨v, hv⟩ : ∃ v, nmV b (q : Int) 1 = v := ⟨_, rfl⟩
     rw [hv] at hu hlt2 HSC
     have hlt3 : v ≤ 65535 := by have : v < 256 := hlt2; omega
     clear hv hlt2
     have hzi : I64 (r + (v : Int)) := ⟨by omega, by omega⟩
     by_cases h5 : q + 1 ≤ b.length
     · rw [decide_eq_true h5] at hu
       have hIo5 := hIo.below (bl1 (.cells #[.int .i64 (r + (v : Int))] 3))
       have hN := heap_alloc_new wr (.cells #[.int .i64 (r + (v : Int))] 3)
       have n0 := cell_of_row _ wr.heap.size 0 _ _ (0, 0) hN
       have hbs : w.heap.size ≤ (wr.alloc (.cells #[.int .i64 (r + (v : Int))] 3)).heap.size := Nat.le_trans hbW.size (bl1 _).size
       clear hN
       go_wp2_with fail
       refine hu.mono ?_
       rintro e w1 ⟨rfl, rfl⟩; clear hu
       go_wp2_with (at_builtin; refine wpList_append_int rfl _ _ rfl w.heap.size _ ys rfl hIo5 wr.heap.size (r + (v : Int)) rfl n0 hzi hll hbs ?_)
       intro v' w9 hI9 hgrow
       have hB9 : Below w.heap.size w w9 := (hbW.alloc hbW.size _).grown hgrow hbs (fun k hk => hIo.lo hk)
       clear hgrow hIo5 n0 hbs hll hIo hbW
       have HY2 : Hid (ys ++ [r + (v : Int)] = sums 0 (ds ++ runV RPt b (h / 128) (p + 1) (j + 1))) := by show _ = _; rw [HSC.out, sums_snoc, HYS.out, HR.out]
       have HR2 : Hid (r + (v : Int) = lastS 0 (ds ++ runV RPt b (h / 128) (p + 1) (j + 1))) := by show _ = _; rw [HSC.out, lastS_snoc, HR.out]
       rw [HY2.out] at hI9; go_wp2
       go_roundw
       case rel => exact .inl ⟨j + 1, q + 1, _, by omega, by rw [HKD.out]; exact HQ2.out.symm, by omega, h3, rfl, by go_num, rfl, HR2.out, by omega, by omega, by go_num, hI9, hB9⟩
       case measure => simp [intOf, mOk]; omega
     · rw [decide_eq_false h5] at hu
       have HNO : Hid (rpO b = none) := HBD2.out (by omega)
       have hIo5 := hIo.below (bl1 (.cells #[.int .i64 (r + (v : Int))] 3))
       have hN := heap_alloc_new wr (.cells #[.int .i64 (r + (v : Int))] 3)
       have n0 := cell_of_row _ wr.heap.size 0 _ _ (0, 0) hN
       have hbs : w.heap.size ≤ (wr.alloc (.cells #[.int .i64 (r + (v : Int))] 3)).heap.size := Nat.le_trans hbW.size (bl1 _).size
       clear hN
       go_wp2_with fail
       refine hu.mono ?_
       rintro e w1 ⟨rfl, rfl⟩; clear hu
       go_wp2_with (at_builtin; refine wpList_append_int rfl _ _ rfl w.heap.size _ ys rfl hIo5 wr.heap.size (r + (v : Int)) rfl n0 hzi hll hbs ?_)
       intro v' w9 hI9 hgrow
       have hB9 : Below w.heap.size w w9 := (hbW.alloc hbW.size _).grown hgrow hbs (fun k hk => hIo.lo hk)
       clear hgrow hIo5 n0 hbs hll hIo hbW; go_wp2
       go_roundw
       case rel => exact .inr ⟨_, _, _, j + 1, rfl, rfl, rfl, by go_num, HNO.out, hI9, hB9⟩
       case measure => simp [intOf, mOk]
   · have gk : (h : Int) / 128 = 1 := by omega
     rw [h0, show szP 1 = 2 from rfl] at HQ2 HBD2
     rw [h0] at HKD
     rw [h0, show vlP b 1 q = ((nmV b (q : Int) 2 : Nat) : Int) from rfl] at HSC
     clear hkd h0
     have hu := su8_any a cap b (q : Int) wr hrb ⟨by omega, by omega⟩
     have hu2 := su16_any a cap b (q : Int) wr hrb ⟨by omega, by omega⟩
     generalize nmV b (q : Int) 1 = v1 at hu
     generalize inB b.length (q : Int) 1 = o1 at hu
     have hlt2 := nmV_lt hrb.lim (q : Int) 2
     rw [show inB b.length (q : Int) 2 = decide (q + 2 ≤ b.length) from inB_nat (n := 2)] at hu2
     obtain ⟨v, hv⟩ : ∃ v, nmV b (q : Int) 2 = v := ⟨_, rfl⟩
     rw [hv] at hu2 hlt2 HSC
     have hlt3 : v ≤ 65535 := by have : v < 65536 := hlt2; omega
     clear hv hlt2
     have hzi : I64 (r + (v : Int)) := ⟨by omega, by omega⟩
     by_cases h5 : q + 2 ≤ b.length
     · rw [decide_eq_true h5] at hu2
       have hIo5 := hIo.below (bl1 (.cells #[.int .i64 (r + (v : Int))] 3))
       have hN := heap_alloc_new wr (.cells #[.int .i64 (r + (v : Int))] 3)
       have n0 := cell_of_row _ wr.heap.size 0 _ _ (0, 0) hN
       have hbs : w.heap.size ≤ (wr.alloc (.cells #[.int .i64 (r + (v : Int))] 3)).heap.size := Nat.le_trans hbW.size (bl1 _).size
       clear hN
       go_wp2_with fail
       refine hu.mono ?_
       rintro e w1 ⟨rfl, rfl⟩; clear hu
       go_wp2_with fail
       refine hu2.mono ?_
       rintro e w1 ⟨rfl, rfl⟩; clear hu2
       go_wp2_with (at_builtin; refine wpList_append_int rfl _ _ rfl w.heap.size _ ys rfl hIo5 wr.heap.size (r + (v : Int)) rfl n0 hzi hll hbs ?_)
       intro v' w9 hI9 hgrow
       have hB9 : Below w.heap.size w w9 := (hbW.alloc hbW.size _).grown hgrow hbs (fun k hk => hIo.lo hk)
       clear hgrow hIo5 n0 hbs hll hIo hbW
       have HY2 : Hid (ys ++ [r + (v : Int)] = sums 0 (ds ++ runV RPt b (h / 128) (p + 1) (j + 1))) := by show _ = _; rw [HSC.out, sums_snoc, HYS.out, HR.out]
       have HR2 : Hid (r + (v : Int) = lastS 0 (ds ++ runV RPt b (h / 128) (p + 1) (j + 1))) := by show _ = _; rw [HSC.out, lastS_snoc, HR.out]
       rw [HY2.out] at hI9; go_wp2
       go_roundw
       case rel => exact .inl ⟨j + 1, q + 2, _, by omega, by rw [HKD.out]; exact HQ2.out.symm, by omega, h3, rfl, by go_num, rfl, HR2.out, by omega, by omega, by go_num, hI9, hB9⟩
       case measure => simp [intOf, mOk]; omega
     · rw [decide_eq_false h5] at hu2
       have HNO : Hid (rpO b = none) := HBD2.out (by omega)
       have hIo5 := hIo.below (bl1 (.cells #[.int .i64 (r + (v : Int))] 3))
       have hN := heap_alloc_new wr (.cells #[.int .i64 (r + (v : Int))] 3)
       have n0 := cell_of_row _ wr.heap.size 0 _ _ (0, 0) hN
       have hbs : w.heap.size ≤ (wr.alloc (.cells #[.int .i64 (r + (v : Int))] 3)).heap.size := Nat.le_trans hbW.size (bl1 _).size
       clear hN
       go_wp2_with fail
       refine hu.mono ?_
       rintro e w1 ⟨rfl, rfl⟩; clear hu
       go_wp2_with fail
       refine hu2.mono ?_
       rintro e w1 ⟨rfl, rfl⟩; clear hu2
       go_wp2_with (at_builtin; refine wpList_append_int rfl _ _ rfl w.heap.size _ ys rfl hIo5 wr.heap.size (r + (v : Int)) rfl n0 hzi hll hbs ?_)
       intro v' w9 hI9 hgrow
       have hB9 : Below w.heap.size w w9 := (hbW.alloc hbW.size _).grown hgrow hbs (fun k hk => hIo.lo hk)
       clear hgrow hIo5 n0 hbs hll hIo hbW; go_wp2
       go_roundw
       case rel => exact .inr ⟨_, _, _, j + 1, rfl, rfl, rfl, by go_num, HNO.out, hI9, hB9⟩
       case measure => simp [intOf, mOk]
theorem runV_P {b : List Nat} (hB : Byt b) (kd p k : Nat) : ∀ z ∈ runV RPt b kd p k, 0 ≤ z ∧ z ≤ 65535 := by
 intro z hz
 unfold runV at hz
 obtain ⟨i, _, rfl⟩ := List.mem_map.1 hz
 show 0 ≤ vlP b kd _ ∧ vlP b kd _ ≤ 65535
 unfold vlP
 have h1 := nmV_lt hB (((p + i * RPt.sz kd : Nat) : Int)) 1
 have h2 := nmV_lt hB (((p + i * RPt.sz kd : Nat) : Int)) 2
 simp only [Nat.pow_one, Nat.reducePow] at h1 h2
 split <;> omega
theorem rdF_P {b : List Nat} (hB : Byt b) : ∀ (f p n : Nat) (l : List Int) (e : Nat), rdF RPt b f p n = some (l, e) → ∀ z ∈ l, 0 ≤ z ∧ z ≤ 65535 := by
 intro f
 induction f with
 | zero =>
  intro p n l e h
  cases n with
  | zero => rw [rdF_zero] at h; cases h; intro z hz; cases hz
  | succ n => cases h
 | succ f ih =>
  intro p n l e h
  cases n with
  | zero => rw [rdF_zero] at h; cases h; intro z hz; cases hz
  | succ n =>
   rw [rdF] at h
   split at h
   · split at h
     · rename_i l' e' hr
       cases h
       intro z hz
       rcases List.mem_append.1 hz with hz | hz
       · exact runV_P hB _ _ _ z hz
       · exact ih _ _ _ _ hr z hz
     · cases h
   · cases h
theorem cReadChangesL_any (a : Option Addr) (cap : Nat) (b : List Nat) (n : Int) (w : World) (h : Rb w a cap b) (hbl : b.length ≤ 100000) (hn : I64 n) :
    Calls Tryz.prog 162 #[.slice a b.length cap, .int .i64 n] w fun e w' => ∃ a' c', e = .returned (.tuple #[.slice a' (rcL b n).length c', .int .i64 (rcN b n), .int .i64 (rcE b n)]) ∧ Ri w' a' c' (rcL b n) ∧ (∀ b o, a' = some ⟨b, o, none⟩ → w.heap.size ≤ b) ∧ (a' = none → c' = 0) ∧ Below w.heap.size w w' := by
 by_cases h1 : 0 ≤ n ∧ n ≤ 2000
 rotate_left
 · have HE : Hid (rcL b n = [] ∧ rcN b n = 0 ∧ rcE b n = 4) := by
     have h0 : rcO b n = none := by rw [rcO, if_neg h1]
     refine ⟨(rc_out h0).1, (rc_out h0).2, ?_⟩
     rw [rcE, h0]
     exact if_neg h1
   by_cases h2 : n < 0
   · have g1 : decide (n < 0) = true := decide_eq_true h2
     clear h h1 h2
     go_enter Tryz.func162, Tryz.ntmps162
     go_wp2
     go_ret3
     exact ⟨none, 0, by rw [HE.out.1, HE.out.2.1, HE.out.2.2]; rfl, by rw [HE.out.1]; exact Ri.nil _ _ _ (Nat.zero_le _), (fun _ _ e => by cases e), (fun _ => rfl), Below.refl _ _⟩
   · have g1 : decide (n < 0) = false := decide_eq_false h2
     have g2 : decide (2000 < n) = true := decide_eq_true (by omega)
     clear h h1 h2
     go_enter Tryz.func162, Tryz.ntmps162
     go_wp2
     go_ret3
     exact ⟨none, 0, by rw [HE.out.1, HE.out.2.1, HE.out.2.2]; rfl, by rw [HE.out.1]; exact Ri.nil _ _ _ (Nat.zero_le _), (fun _ _ e => by cases e), (fun _ => rfl), Below.refl _ _⟩
 obtain ⟨N, rfl⟩ : ∃ N : Nat, n = (N : Int) := ⟨n.toNat, by omega⟩
 have HO : Hid (rcO b (N : Int) = rdF RC b N 0 N) := by show _ = _; rw [rcO, if_pos (by omega), Int.toNat_natCast]
 have HNN : Hid (rcO b (N : Int) = none → rcL b (N : Int) = [] ∧ rcN b (N : Int) = 0 ∧ rcE b (N : Int) = 2) := fun h0 => by
  refine ⟨(rc_out h0).1, (rc_out h0).2, ?_⟩
  rw [rcE, h0]
  exact if_pos (by omega)
 have hr := rrC_any a cap b 0 N w h hbl (Nat.zero_le _) (by omega)
 have hr : Calls Tryz.prog 159 #[.slice a b.length cap, .int .i64 0, .int .i64 (N : Int), .int .i64 64, .func (.func 184) #[] #[]] w _ := hr
 have g1 : decide ((N : Int) < 0) = false := decide_eq_false (by omega)
 have g2 : decide (2000 < (N : Int)) = false := decide_eq_false (by omega)
 have g0 : (0 : Int) ≤ (N : Int) := by omega
 have g3 : (N : Int) ≤ 2000 := h1.2
 clear h h1
 go_enter Tryz.func162, Tryz.ntmps162
 go_wp2_with fail
 refine hr.mono ?_
 rintro e u1 ⟨⟨l, e1, v, hl, rfl, hIo⟩ | ⟨hl, rfl⟩, hb1⟩
 · have HY : Hid (rcL b (N : Int) = l ∧ rcN b (N : Int) = (e1 : Int) ∧ rcE b (N : Int) = 0) := by
     unfold rcL rcN rcE
     rw [HO.out, hl]
     exact ⟨rfl, rfl, rfl⟩
   obtain ⟨av, cv, rfl, hri, hlo⟩ := hIo.sliceL; clear hr hl HO HNN hIo; go_wp2
   go_ret3
   exact ⟨av, cv, by rw [HY.out.1, HY.out.2.1, HY.out.2.2]; rfl, by rw [HY.out.1]; exact hri, hlo.1, hlo.2, hb1⟩
 · have HNO : Hid (_) := HNN.out (HO.out.trans hl)
   clear hr hl HO HNN; go_wp2
   go_ret3
   exact ⟨none, 0, by rw [HNO.out.1, HNO.out.2.1, HNO.out.2.2]; rfl, by rw [HNO.out.1]; exact Ri.nil _ _ _ (Nat.zero_le _), (fun _ _ e => by cases e), (fun _ => rfl), hb1⟩
theorem cReadPointsL_any (a : Option Addr) (cap : Nat) (b : List Nat) (w : World) (h : Rb w a cap b) (hbl : b.length ≤ 100000) :
    Calls Tryz.prog 103 #[.slice a b.length cap] w fun e w' => ∃ a' c', e = .returned (.tuple #[.slice a' (rpL b).length c', .int .i64 (rpN b), .int .i64 (rpE b)]) ∧ Ri w' a' c' (rpL b) ∧ (∀ b o, a' = some ⟨b, o, none⟩ → w.heap.size ≤ b) ∧ (a' = none → c' = 0) ∧ Below w.heap.size w w' := by
 have HNN : Hid (rpO b = none → rpL b = [] ∧ rpN b = 0 ∧ rpE b = 2) := fun h0 => by
  unfold rpL rpN rpE
  rw [h0]
  exact ⟨rfl, rfl, rfl⟩
 have hB := h.lim
 have hc := readCount_any a cap b w h
 have hA2 : ptA b = 1 ∨ ptA b = 2 := by unfold ptA; split <;> omega
 cases ho : ptO b with
 | false =>
  have HNO : Hid (_) := HNN.out (by rw [rpO, ho]; rfl)
  rw [ho] at hc; clear h HNN ho
  go_enter Tryz.func103, Tryz.ntmps103
  go_wp2_with fail
  refine hc.mono ?_
  rintro e u1 ⟨z, rfl, _, rfl⟩; clear hc; go_wp2
  go_ret3
  exact ⟨none, 0, by rw [HNO.out.1, HNO.out.2.1, HNO.out.2.2]; rfl, by rw [HNO.out.1]; exact Ri.nil _ _ _ (Nat.zero_le _), (fun _ _ e => by cases e), (fun _ => rfl), Below.refl _ _⟩
 | true =>
  have hAl : ptA b ≤ b.length := of_decide_eq_true ho
  have HRO : Hid (rpO b = (match rdF RPt b (ptN b) (ptA b) (ptN b) with | some p => if ptB (sums 0 p.1) then some (sums 0 p.1, p.2) else none | none => none)) := by
   show _ = _
   rw [rpO, ho]
   rfl
  have HPP : Hid (∀ l e, rdF RPt b (ptN b) (ptA b) (ptN b) = some (l, e) → (∀ z ∈ l, 0 ≤ z ∧ z ≤ 65535) ∧ l.length ≤ 40000) := fun l e hl => ⟨rdF_P hB _ _ _ _ _ hl, by have := (rdF_len _ _ _ _ _ _ _ hl).1; have := ptN_le hB; omega⟩
  have hr := rrP_any a cap b (ptA b) (ptN b) w h hbl hAl (by have := ptN_le hB; omega)
  rw [ho] at hc
  obtain ⟨A, hA⟩ : ∃ n, ptA b = n := ⟨_, rfl⟩
  obtain ⟨N, hN⟩ : ∃ n, ptN b = n := ⟨_, rfl⟩
  rw [hA] at hc hr HRO HPP; rw [hN] at hc hr HRO HPP; clear h ho hA hN hAl hA2 hB
  go_enter Tryz.func103, Tryz.ntmps103
  go_wp2_with fail
  refine hc.mono ?_
  rintro e u1 ⟨z, rfl, hz, rfl⟩
  obtain rfl : z = (N : Int) := hz trivial
  clear hc hz
  go_wp2_with fail
  refine hr.mono ?_
  rintro e u1 ⟨⟨l, e1, v, hl, rfl, hIo⟩ | ⟨hl, rfl⟩, hb1⟩
  rotate_left
  · have HNO : Hid (_) := HNN.out (by rw [HRO.out, hl])
    clear hr hl HRO HNN HPP; go_wp2
    go_ret3
    exact ⟨none, 0, by rw [HNO.out.1, HNO.out.2.1, HNO.out.2.2]; rfl, by rw [HNO.out.1]; exact Ri.nil _ _ _ (Nat.zero_le _), (fun _ _ e => by cases e), (fun _ => rfl), hb1⟩
  obtain ⟨p1, p2⟩ := HPP.out l e1 hl
  have hau := caddUp_any w.heap.size v l u1 hIo p1 p2
  have HRO2 : Hid (rpO b = if ptB (sums 0 l) then some (sums 0 l, e1) else none) := by show _ = _; rw [HRO.out, hl]
  clear hr hl HRO HPP hIo p1 p2
  go_wp2_with fail
  refine hau.mono ?_
  rintro e u2 ⟨rfl, hIo, hb2⟩
  replace hb1 := hb1.trans hb2
  clear hau hb2; obtain ⟨av, cv, rfl, hri, hlo⟩ := hIo.sliceL
  have hap := carePts_any av cv (sums 0 l) u2 hri
  cases hp : ptB (sums 0 l) with
  | false =>
   have HNO : Hid (_) := HNN.out (by rw [HRO2.out, hp]; rfl)
   rw [hp] at hap; clear hp HRO2 HNN hIo
   go_wp2_with fail
   refine hap.mono ?_
   rintro e u3 ⟨rfl, rfl⟩; clear hap; go_wp2
   go_ret3
   exact ⟨none, 0, by rw [HNO.out.1, HNO.out.2.1, HNO.out.2.2]; rfl, by rw [HNO.out.1]; exact Ri.nil _ _ _ (Nat.zero_le _), (fun _ _ e => by cases e), (fun _ => rfl), hb1⟩
  | true =>
   have HY : Hid (rpL b = sums 0 l ∧ rpN b = (e1 : Int) ∧ rpE b = 0) := by
    unfold rpL rpN rpE
    rw [HRO2.out, hp]
    exact ⟨rfl, rfl, rfl⟩
   rw [hp] at hap; clear hp HRO2 HNN hIo
   go_wp2_with fail
   refine hap.mono ?_
   rintro e u3 ⟨rfl, rfl⟩; clear hap; go_wp2
   go_ret3
   exact ⟨av, cv, by rw [HY.out.1, HY.out.2.1, HY.out.2.2]; rfl, by rw [HY.out.1]; exact hri, hlo.1, hlo.2, hb1⟩
theorem cReadChanges_any (a : Option Addr) (cap : Nat) (b : List Nat) (n : Int) (w : World) (h : Rb w a cap b) (hbl : b.length ≤ 100000) (hn : I64 n) :
    Calls Tryz.prog 162 #[.slice a b.length cap, .int .i64 n] w fun e w' => ∃ a' c', e = .returned (.tuple #[.slice a' (rcL b n).length c', .int .i64 (rcN b n), .int .i64 (rcE b n)]) ∧ Ri w' a' c' (rcL b n) ∧ Below w.heap.size w w' :=
 (cReadChangesL_any a cap b n w h hbl hn).mono (fun e w' ⟨a', c', h1, h2, _, _, h3⟩ => ⟨a', c', h1, h2, h3⟩)
theorem cReadPoints_any (a : Option Addr) (cap : Nat) (b : List Nat) (w : World) (h : Rb w a cap b) (hbl : b.length ≤ 100000) :
    Calls Tryz.prog 103 #[.slice a b.length cap] w fun e w' => ∃ a' c', e = .returned (.tuple #[.slice a' (rpL b).length c', .int .i64 (rpN b), .int .i64 (rpE b)]) ∧ Ri w' a' c' (rpL b) ∧ Below w.heap.size w w' :=
 (cReadPointsL_any a cap b w h hbl).mono (fun e w' ⟨a', c', h1, h2, _, _, h3⟩ => ⟨a', c', h1, h2, h3⟩)
theorem codP : CodP := ⟨fun a cap l w h _ => cPoints_any a cap l w h, fun a cap b w h hb => cReadPoints_any a cap b w h (by omega), fun a cap l w h _ => cChanges_any a cap l w h, fun a cap b n w h hb hn => cReadChanges_any a cap b n w h (by omega) hn⟩
theorem uppP_any (B : Nat) (G : Nat → Prop) (bs : List Nat) (a : Option Addr) (cap : Nat) (l : List Int) (w : World) (h : Pc w B G ⟨bs, [], false⟩) (hr : Ri w a cap l) (hl : l.length ≤ 3000) (hok : ptB l = true) (hb : bs.length + (ppB l).length ≤ 1048576) :
    Calls Tryz.prog 93 #[pg B, .func (.func 94) #[] #[], .slice a l.length cap] w fun e w' => e = .returned (.int .i64 0) ∧ Pc w' B G ⟨bs ++ ppB l, [], false⟩ ∧ Keep G w w' := by
 have hp := codP.pts a cap l w hr hl
 rw [show ppE l = 0 by unfold ppE; rw [hok]; rfl] at hp
 have hG1 := h.1
 go_enter Tryz.func93, Tryz.ntmps93
 go_wp2_with fail
 refine hp.mono ?_
 rintro e m1 ⟨a1, c1, rfl, hrb, hb1⟩
 have hk1 : Keep G w m1 := Keep.of_below hb1 hG1
 have hP := putBytes_any B G _ a1 c1 (ppB l) m1 (h.below hb1) hrb hb
 rw [show (St.mk bs [] false).app (ppB l) = ⟨bs ++ ppB l, [], false⟩ by simp [St.app]] at hP
 clear hp hb1
 go_wp2_with fail
 refine hP.mono ?_
 rintro e m2 ⟨rfl, hP2, hk2⟩
 have hk := hk1.trans hk2
 clear hP hk1 hk2; go_wp2
 go_ret
 exact ⟨rfl, hP2, hk⟩
theorem uppC_any (B : Nat) (G : Nat → Prop) (bs : List Nat) (a : Option Addr) (cap : Nat) (l : List Int) (w : World) (h : Pc w B G ⟨bs, [], false⟩) (hr : Ri w a cap l) (hl : l.length ≤ 3000) (hok : chB l = true) (hb : bs.length + (pcB l).length ≤ 1048576) :
    Calls Tryz.prog 93 #[pg B, .func (.func 95) #[] #[], .slice a l.length cap] w fun e w' => e = .returned (.int .i64 0) ∧ Pc w' B G ⟨bs ++ pcB l, [], false⟩ ∧ Keep G w w' := by
 have hp := codP.chs a cap l w hr hl
 rw [show pcE l = 0 by unfold pcE; rw [hok]; rfl] at hp
 have hG1 := h.1
 go_enter Tryz.func93, Tryz.ntmps93
 go_wp2_with fail
 refine hp.mono ?_
 rintro e m1 ⟨a1, c1, rfl, hrb, hb1⟩
 have hk1 : Keep G w m1 := Keep.of_below hb1 hG1
 have hP := putBytes_any B G _ a1 c1 (pcB l) m1 (h.below hb1) hrb hb
 rw [show (St.mk bs [] false).app (pcB l) = ⟨bs ++ pcB l, [], false⟩ by simp [St.app]] at hP
 clear hp hb1
 go_wp2_with fail
 refine hP.mono ?_
 rintro e m2 ⟨rfl, hP2, hk2⟩
 have hk := hk1.trans hk2
 clear hP hk1 hk2; go_wp2
 go_ret
 exact ⟨rfl, hP2, hk⟩
theorem TuC.kept {S G : Nat → Prop} {w w' : World} {ra : Option Addr} {rc : Nat} {pa : Option Addr} {pc : Nat} {xa : Option Addr} {xc : Nat} {ya : Option Addr} {yc : Nat} {t : Tu} (h : TuC S w ra rc pa pc xa xc ya yc t) (hk : Keep G w w') (hS : ∀ k, S k → G k) : TuC S w' ra rc pa pc xa xc ya yc t :=
 ⟨TeE.row.stay h.1 hk.size (fun k h1 _ => ⟨h1, hk.block k (hS k h1)⟩), El.int.row.stay h.2.1 hk.size (fun k h1 _ => ⟨h1, hk.block k (hS k h1)⟩), El.int.row.stay h.2.2.1 hk.size (fun k h1 _ => ⟨h1, hk.block k (hS k h1)⟩), El.int.row.stay h.2.2.2 hk.size (fun k h1 _ => ⟨h1, hk.block k (hS k h1)⟩)⟩
theorem tes_len_take (l : List Te) (k : Nat) : (tesE (l.take k)).length ≤ 6 * l.length := by
 rw [tesE_len, List.length_take]
 omega
theorem tes_snoc {l : List Te} {k : Nat} (hk : k < l.length) (P : List Nat) : P ++ tesE (l.take (k + 1)) = P ++ tesE (l.take k) ++ be2 (l.getD k Te.none).st ++ be2 (l.getD k Te.none).pk ++ be2 (l.getD k Te.none).en := by
 rw [take_snoc (d := Te.none) hk, tesE_append]
 simp only [tesE, teE, List.append_nil, List.append_assoc]
theorem tf_fd {t : Te} (h : tfB t = true) : (-16384 ≤ t.st ∧ t.st ≤ 16384) ∧ (-16384 ≤ t.pk ∧ t.pk ≤ 16384) ∧ (-16384 ≤ t.en ∧ t.en ≤ 16384) := by
 have := tfB_iff.1 h
 unfold TfT at this
 omega
theorem uput_any (B : Nat) (G : Nat → Prop) (bs : List Nat) (S : Nat → Prop) (ra : Option Addr) (rc : Nat) (pa : Option Addr) (pc : Nat) (xa : Option Addr) (xc : Nat) (ya : Option Addr) (yc : Nat) (t : Tu) (n : Nat) (ax : Int) (w : World) (h : Pc w B G ⟨bs, [], false⟩) (ht : TuC S w ra rc pa pc xa xc ya yc t) (hS : ∀ k, S k → G k) (hf : tuB t n ax = true) (hn : n ≤ 86) (hax : ax ≤ 4) (hb : bs.length ≤ 100000) :
    Calls Tryz.prog 43 #[pg B, .agg #[.slice ra t.rg.length rc, .bool t.al, .slice pa t.pts.length pc, .slice xa t.dx.length xc, .slice ya t.dy.length yc]] w fun e w' => e = .returned (.int .i64 0) ∧ Pc w' B G ⟨bs ++ tuE t, [], false⟩ ∧ Keep G w w' := by
 obtain ⟨W, hW, X1, hbW⟩ : ∃ W, W = w.alloc (.cells #[.slice ra t.rg.length rc, .bool t.al, .slice pa t.pts.length pc, .slice xa t.dx.length xc, .slice ya t.dy.length yc] 60) ∧ Bk 60 W w.heap.size [.slice ra t.rg.length rc, .bool t.al, .slice pa t.pts.length pc, .slice xa t.dx.length xc, .slice ya t.dy.length yc] ∧ Below w.heap.size w W := ⟨_, rfl, Bk.new _ _ _, bl1 _⟩
 have hP0 : Pc W B (fun k => G k ∨ k = w.heap.size) ⟨bs, [], false⟩ := by rw [hW]; exact h.moreA _
 have hG1 := h.1
 have hk0 : Keep G w W := Keep.of_below hbW hG1
 obtain ⟨p1, p2, -⟩ := tu_pts hf (by omega)
 obtain ⟨c1, c2, -, -, c3, c4⟩ := tu_chs hf (by omega)
 obtain ⟨g1, g2⟩ := rg_len (tuB_iff.1 hf).1
 have HPT : Hid (ptB t.pts = true ∧ chB t.dx = true ∧ chB t.dy = true) := ⟨p1, c1, c2⟩
 have HLP : Hid ((ppB t.pts).length ≤ 260 ∧ (pcB t.dx).length ≤ 258 ∧ (pcB t.dy).length ≤ 258) := ⟨by have := pp_short' p1; omega, by have := pc_short c1; omega, by have := pc_short c2; omega⟩
 have HTF : Hid (∀ k, k < t.rg.length → tfB (t.rg.getD k Te.none) = true) := fun k hk => List.all_eq_true.1 g2 _ (getT_mem hk)
 have HEE : Hid (tuE t = tesE t.rg ++ (ppB t.pts ++ (pcB t.dx ++ pcB t.dy))) := rfl
 have HTW : Hid (TuC S W ra rc pa pc xa xc ya yc t) := ht.below hbW
 have HXW : Hid (Bk 60 W w.heap.size [.slice ra t.rg.length rc, .bool t.al, .slice pa t.pts.length pc, .slice xa t.dx.length xc, .slice ya t.dy.length yc]) := X1
 have HSG : Hid (∀ k, S k → G k ∨ k = w.heap.size) := fun k hk => .inl (hS k hk)
 have HK0 : Hid (Keep G w W) := hk0
 have hgl : t.rg.length ≤ 4 := by omega
 have hpl : t.pts.length ≤ 86 := by omega
 generalize tuE t = TE at *
 obtain ⟨gt, hgt⟩ : ∃ g, w.heap.size = g := ⟨_, rfl⟩
 have HGT : Hid (w.heap.size = gt) := hgt
 rw [hgt] at HXW hP0 HSG
 have hP1 : Pc W B (fun k => G k ∨ k = gt) ⟨bs ++ tesE (t.rg.take 0), [], false⟩ := by
  rw [List.take_zero, tesE, List.append_nil]
  exact hP0
 obtain ⟨q0, q1, q2, q3, q4, _⟩ := HXW.out.five; clear h ht hS hf p1 p2 c1 c2 g1 g2 X1 hP0 hk0 hbW
 go_enter Tryz.func43, Tryz.ntmps43
 go_upto_region 1 with fail
 rw [← hW]; clear hW hgt; go_wp2; clear q0 q1 q2 q3 q4
 go_loopw [12] (fun i wr => ∃ k : Nat, k ≤ t.rg.length ∧ i = .int .i64 k ∧ Pc wr B (fun k => G k ∨ k = gt) ⟨bs ++ tesE (t.rg.take k), [], false⟩ ∧ Keep (fun k => G k ∨ k = gt) W wr) (fun i _ => t.rg.length - (intOf i).toNat)
 case atStart => exact ⟨0, Nat.zero_le _, rfl, hP1, Keep.refl _ _⟩
 case round =>
  clear hP1; obtain ⟨k, hk, rfl, hP, hkk⟩ := hrel
  have hT := HTW.out.kept hkk HSG.out
  by_cases hkn : k < t.rg.length
  · obtain ⟨b9, o9, ea, hb9, d0, d1, d2⟩ := hT.tz.at (Below.refl _ _) k hkn
    have htf := tf_fd (HTF.out k hkn)
    have HSJ : Hid (_) := tes_snoc hkn bs
    have HLJ : Hid ((bs ++ tesE (t.rg.take k)).length ≤ 100030) := by show _ ≤ _; rw [List.length_append]; have := tes_len_take t.rg k; omega
    obtain ⟨te, hte⟩ : ∃ x, t.rg.getD k Te.none = x := ⟨_, rfl⟩
    rw [hte] at d0 d1 d2 htf HSJ; obtain ⟨tst, tpk, ten⟩ := te; dsimp only at d0 d1 d2 htf HSJ
    obtain ⟨b2, hb2⟩ : ∃ b2, bs ++ tesE (t.rg.take k) = b2 := ⟨_, rfl⟩
    rw [hb2] at hP HSJ HLJ; subst ea
    have i1 : (0 : Int) ≤ (k : Int) := by omega
    have i2 : (k : Int) < (t.rg.length : Int) := by omega
    obtain ⟨V, hV, XQ1, hb0⟩ : ∃ V, V = wr.alloc (.cells #[.int .i64 tst, .int .i64 tpk, .int .i64 ten] 57) ∧ Bk 57 V wr.heap.size [.int .i64 tst, .int .i64 tpk, .int .i64 ten] ∧ Below wr.heap.size wr V := ⟨_, rfl, Bk.new _ _ _, bl1 _⟩
    have hPG := hP.1
    have hP1 : Pc V B (fun k => (G k ∨ k = gt) ∨ k = wr.heap.size) ⟨b2, [], false⟩ := by rw [hV]; exact hP.moreA _
    have kk1 : Keep (fun k => (G k ∨ k = gt) ∨ k = wr.heap.size) V V := Keep.refl _ _
    have kkb : Keep (fun k => G k ∨ k = gt) wr V := Keep.of_below hb0 hPG
    obtain ⟨q0, q1, q2, _⟩ := XQ1.three; clear hte hb2 hT hP
    go_upto_region 4 with fail
    rw [← hV]; clear hV d0 d1 d2 hb0
    generalize wr.heap.size = gq at *
    go_wp2_with fail
    refine (put16_any B _ _ tst _ hP1 ⟨by omega, by omega⟩ (by have := HLJ.out; simp [be2]; omega)).mono ?_
    rintro e v2 ⟨rfl, hP2, hK2⟩
    rw [put16A (by omega) (by omega)] at hP2
    have kk2 := kk1.trans hK2
    have XQ2 := XQ1.kept hK2 (.inr rfl)
    clear hP1 hK2 XQ1 q0 q1 q2 kk1; obtain ⟨q0, q1, q2, _⟩ := XQ2.three
    go_wp2_with fail
    refine (put16_any B _ _ tpk _ hP2 ⟨by omega, by omega⟩ (by have := HLJ.out; simp [be2]; omega)).mono ?_
    rintro e v3 ⟨rfl, hP3, hK3⟩
    rw [put16A (by omega) (by omega)] at hP3
    have kk3 := kk2.trans hK3
    have XQ3 := XQ2.kept hK3 (.inr rfl)
    clear hP2 hK3 XQ2 q0 q1 q2 kk2; obtain ⟨q0, q1, q2, _⟩ := XQ3.three
    go_wp2_with fail
    refine (put16_any B _ _ ten _ hP3 ⟨by omega, by omega⟩ (by have := HLJ.out; simp [be2]; omega)).mono ?_
    rintro e v4 ⟨rfl, hP4, hK4⟩
    rw [put16A (by omega) (by omega)] at hP4
    have kk4 := kk3.trans hK4
    have XQ4 := XQ3.kept hK4 (.inr rfl)
    clear hP3 hK4 XQ3 q0 q1 q2 kk3; obtain ⟨q0, q1, q2, _⟩ := XQ4.three; rw [← HSJ.out] at hP4
    have hP6 : Pc v4 B (fun k => G k ∨ k = gt) ⟨bs ++ tesE (t.rg.take (k + 1)), [], false⟩ := hP4.guard (fun k hk => ⟨hP4.1 k (.inl hk), .inl hk⟩)
    have kk6 : Keep (fun k => G k ∨ k = gt) W v4 := (hkk.trans kkb).trans (kk4.mono (fun k hk => .inl hk))
    clear hP4 XQ4 q0 q1 q2 kk4 HSJ; go_wp2
    go_roundw
    case rel => exact ⟨k + 1, by omega, by go_num, hP6, kk6⟩
    case measure => simp [intOf]; omega
  · obtain rfl : k = t.rg.length := by omega
    have g4 : ¬ (t.rg.length : Int) < (t.rg.length : Int) := by omega
    rw [List.take_length] at hP
    have hl1 : (bs ++ tesE t.rg).length ≤ 100024 := by rw [List.length_append, tesE_len]; omega
    obtain ⟨b2, hb2⟩ : ∃ b2, bs ++ tesE t.rg = b2 := ⟨_, rfl⟩
    have HB2 : Hid (bs ++ tesE t.rg = b2) := hb2
    rw [hb2] at hP hl1
    have hXr := HXW.out.kept hkk (.inr rfl)
    obtain ⟨q0, q1, q2, q3, q4, _⟩ := hXr.five
    have hlp := HLP.out
    have hq1 := uppP_any B _ b2 pa pc t.pts wr hP hT.pts (by omega) HPT.out.1 (by omega)
    clear hb2 hP
    go_wp2_with fail
    refine hq1.mono ?_
    rintro e v1 ⟨rfl, hP1, hk1⟩
    replace hT := hT.kept hk1 HSG.out
    replace hkk := hkk.trans hk1
    replace hXr := hXr.kept hk1 (.inr rfl)
    clear q0 q1 q2 q3 q4 hq1 hk1; obtain ⟨q0, q1, q2, q3, q4, _⟩ := hXr.five
    have hq1 := uppC_any B _ (b2 ++ ppB t.pts) xa xc t.dx v1 hP1 hT.dx (by have := (chB_iff.1 HPT.out.2.1).2; omega) HPT.out.2.1 (by rw [List.length_append]; omega)
    go_wp2_with fail
    refine hq1.mono ?_
    rintro e v2 ⟨rfl, hP2, hk1⟩
    replace hT := hT.kept hk1 HSG.out
    replace hkk := hkk.trans hk1
    replace hXr := hXr.kept hk1 (.inr rfl)
    clear q0 q1 q2 q3 q4 hq1 hk1 hP1; obtain ⟨q0, q1, q2, q3, q4, _⟩ := hXr.five
    have hq1 := uppC_any B _ (b2 ++ ppB t.pts ++ pcB t.dx) ya yc t.dy v2 hP2 hT.dy (by have := (chB_iff.1 HPT.out.2.2).2; omega) HPT.out.2.2 (by rw [List.length_append, List.length_append]; omega)
    go_wp2_with fail
    refine hq1.mono ?_
    rintro e v3 ⟨rfl, hP3, hk1⟩
    replace hkk := hkk.trans hk1
    have HP3 : Hid (Pc v3 B G ⟨bs ++ TE, [], false⟩) := by
     have := hP3.guard (G' := G) (fun k hk => ⟨hP3.1 k (.inl hk), .inl hk⟩)
     show Pc _ _ _ _
     rw [HEE.out, ← List.append_assoc, HB2.out, ← List.append_assoc, ← List.append_assoc]
     exact this
    have HKF : Hid (Keep G w v3) := HK0.out.trans (hkk.mono (fun k hk => .inl hk))
    clear hP3 hk1 hq1 hkk hP2 q0 q1 q2 q3 q4; go_wp2
    go_ret
    exact ⟨rfl, HP3.out, HKF.out⟩
theorem tus_snoc {l : List Tu} {k : Nat} (hk : k < l.length) (P : List Nat) : P ++ tusE (l.take (k + 1)) = P ++ tusE (l.take k) ++ tuE (l.getD k Tu.none) := by
 rw [take_snoc (d := Tu.none) hk, tusE_append, tusE_one, List.append_assoc]
theorem wrT_no {o : Ol} {l : List Tu} {ax : Int} (h : foT o l ax = false) : wrTB o l ax = [] ∧ wrTE o l ax = 1 := by unfold wrTB wrTE; rw [h]; exact ⟨rfl, rfl⟩
theorem wrT_yes {o : Ol} {l : List Tu} {ax : Int} (h : foT o l ax = true) : wrTB o l ax = tuBt l ∧ wrTE o l ax = 0 := by unfold wrTB wrTE; rw [h]; exact ⟨rfl, rfl⟩
theorem uwrite_any (S : Nat → Prop) (a : Option Addr) (ca : Nat) (b : Option Addr) (cb : Nat) (o : Ol) (S2 : Nat → Prop) (la : Option Addr) (lc : Nat) (l : List Tu) (ax : Int) (w : World) (hc : Gr PnE.row S w a ca o.cs) (hp : Gr PaE S w b cb o.ps) (hl : Gr TuE S2 w la lc l) (hi : I64 ax) :
    Calls Tryz.prog 15 #[.agg #[.slice a o.cs.length ca, .slice b o.ps.length cb], .slice la l.length lc, .int .i64 ax] w fun e w' => ∃ a' c', e = .returned (.tuple #[.slice a' (wrTB o l ax).length c', .int .i64 (wrTE o l ax)]) ∧ Rb w' a' c' (wrTB o l ax) ∧ Below w.heap.size w w' := by
 have kl := hl.lenB
 obtain ⟨W, hW, X1, hbW⟩ : ∃ W, W = w.alloc (.cells #[.slice a o.cs.length ca, .slice b o.ps.length cb] 25) ∧ Bk 25 W w.heap.size [.slice a o.cs.length ca, .slice b o.ps.length cb] ∧ Below w.heap.size w W := ⟨_, rfl, Bk.new _ _ _, bl1 _⟩
 replace hc := hc.below hbW; replace hp := hp.below hbW; replace hl := hl.below hbW; obtain ⟨p0, p1, _⟩ := X1.two
 have hf1 := cformU_any S a ca b cb o S2 la lc l ax W hc hp hl hi
 cases hfo : foT o l ax with
 | false =>
  rw [hfo] at hf1
  rw [(wrT_no hfo).1, (wrT_no hfo).2]
  clear hfo
  go_enter Tryz.func15, Tryz.ntmps15
  go_upto_region 1 with fail
  rw [← hW]; clear hW
  go_wp2_with fail
  refine hf1.mono ?_
  rintro e m2 ⟨rfl, hb1⟩
  have hfin := hbW.trans (hb1.mono hbW.size)
  clear hb1 hf1; go_wp2
  go_ret2
  exact ⟨none, 0, rfl, Rb.nil _ _ _ (Nat.zero_le _) (fun _ => rfl), hfin⟩
 | true =>
 rw [hfo] at hf1
 rw [(wrT_yes hfo).1, (wrT_yes hfo).2]
 obtain ⟨hF1, hF2, hF3, hF4⟩ := foT_iff.1 hfo
 have HTB : Hid (∀ k, k < l.length → tuB (l.getD k Tu.none) (cntO o) ax = true) := hF4
 have HCN : Hid (cntO o ≤ 86) := cnt_le hF1
 have HLE : Hid ((tuBt l).length ≤ 33000) := tuBt_le hfo
 have HTE : Hid (tuBt l = be2 ((l.length : Nat) : Int) ++ tusE l) := rfl
 have HTK : Hid (∀ k, (tusE (l.take k)).length ≤ 33000) := fun k => by
  have h1 := tuBt_le hfo
  have h2 : tusE l = tusE (l.take k) ++ tusE (l.drop k) := by rw [← tusE_append, List.take_append_drop]
  unfold tuBt at h1
  rw [List.length_append, h2, List.length_append] at h1
  omega
 clear hF1 hF4 hfo
 go_enter Tryz.func15, Tryz.ntmps15
 go_upto_region 1 with fail
 rw [← hW]; clear hW
 go_wp2_with fail
 refine hf1.mono ?_
 rintro e u ⟨rfl, hb1⟩
 have HL : Hid (Gr TuE (fun k => k < u.heap.size) u la lc l) := (hl.below hb1).wide (fun k _ h => h)
 have HBW : Hid (Below w.heap.size w u) := hbW.trans (hb1.mono hbW.size)
 have hP0 := pc_newA u (· < u.heap.size) (fun _ h => h)
 have hB0 := bl1 (w := u) (.cells #[.slice none 0 0, .int .i64 0, .map none, .bool false] 96)
 clear hc hp hl hf1 hb1 X1 hbW p0 p1
 go_wp2_with fail
 refine (put16_any u.heap.size _ _ (l.length : Int) _ hP0 ⟨by omega, by omega⟩ (by decide)).mono ?_
 rintro e u1 ⟨rfl, hP1, hK1⟩
 rw [show St.zero = ⟨[], [], false⟩ from rfl, put16A (by omega) (by omega), List.nil_append] at hP1
 have hB1 : Below u.heap.size u u1 := hB0.trans (hK1.below (fun k hk => hk))
 obtain ⟨Q, hQ⟩ : ∃ Q, be2 ((l.length : Nat) : Int) = Q := ⟨_, rfl⟩
 have HQL : Hid (Q.length = 2) := by show _ = _; rw [← hQ]; rfl
 rw [hQ] at hP1 HTE
 have hI : Pc u1 u.heap.size (· < u.heap.size) ⟨Q ++ tusE (l.take 0), [], false⟩ := by
  rw [List.take_zero, tusE, List.append_nil]
  exact hP1
 obtain ⟨B, hBB⟩ : ∃ g, u.heap.size = g := ⟨_, rfl⟩
 have HBB : Hid (u.heap.size = B) := hBB
 rw [hBB] at hI hB1 HL ⊢; clear hP0 hK1 hB0 hP1 hQ hBB; go_wp2
 go_loopw [25] (fun i wr => ∃ k : Nat, k ≤ l.length ∧ i = .int .i64 k ∧ Pc wr B (· < B) ⟨Q ++ tusE (l.take k), [], false⟩ ∧ Below B u wr) (fun i _ => l.length - (intOf i).toNat)
 case atStart => exact ⟨0, Nat.zero_le _, rfl, hI, hB1⟩
 case round =>
  clear hI hB1; obtain ⟨k, hk, rfl, hP, hB⟩ := hrel
  by_cases hkn : k < l.length
  · obtain ⟨b0, off, ra, rc, pa, pc, xa, xc, ya, yc, ea, hb, ht, d0, d1, d2, d3, d4⟩ := HL.out.tu (by rw [HBB.out]; exact hB) k hkn
    have hfk := HTB.out k hkn
    have HSJ : Hid (_) := tus_snoc hkn Q
    have HLJ : Hid ((Q ++ tusE (l.take k)).length ≤ 33002) := by show _ ≤ _; rw [List.length_append, HQL.out]; have := HTK.out k; omega
    obtain ⟨t, htt⟩ : ∃ t, l.getD k Tu.none = t := ⟨_, rfl⟩
    rw [htt] at ht d0 d1 d2 d3 d4 hfk HSJ
    obtain ⟨b2, hb2⟩ : ∃ b2, Q ++ tusE (l.take k) = b2 := ⟨_, rfl⟩
    rw [hb2] at hP HSJ HLJ; subst ea
    have i1 : (0 : Int) ≤ (k : Int) := by omega
    have i2 : (k : Int) < (l.length : Int) := by omega
    obtain ⟨V, hV, X0, hb0⟩ : ∃ V, V = wr.alloc (.cells #[.slice ra t.rg.length rc, .bool t.al, .slice pa t.pts.length pc, .slice xa t.dx.length xc, .slice ya t.dy.length yc] 60) ∧ Bk 60 V wr.heap.size [.slice ra t.rg.length rc, .bool t.al, .slice pa t.pts.length pc, .slice xa t.dx.length xc, .slice ya t.dy.length yc] ∧ Below wr.heap.size wr V := ⟨_, rfl, Bk.new _ _ _, bl1 _⟩
    have hPV := hP.below hb0
    have hBV : Below B u V := hB.trans (hb0.mono (by have := hB.size; rw [HBB.out] at this; exact this))
    have hput := uput_any B (· < B) b2 _ ra rc pa pc xa xc ya yc t _ ax V hPV (ht.below hb0) (fun k hk => hk) hfk HCN.out (by omega) (by have := HLJ.out; omega)
    rw [← HSJ.out] at hput; obtain ⟨q0, q1, q2, q3, q4, _⟩ := X0.five; clear htt hb2 hP hPV ht
    go_upto_region 8 with fail
    rw [← hV]; clear hV d0 d1 d2 d3 d4 hb0
    go_wp2_with fail
    refine hput.mono ?_
    rintro e v4 ⟨rfl, hP4, hk4⟩
    have hB4 : Below B u v4 := hBV.trans (hk4.below (fun k hk => hk))
    clear hput q0 q1 q2 q3 q4 hk4 X0 HSJ hB hBV; go_wp2
    go_roundw
    case rel => exact ⟨k + 1, by omega, by go_num, hP4, hB4⟩
    case measure => simp [intOf]; omega
  · obtain rfl : k = l.length := by omega
    have g4 : ¬ (l.length : Int) < (l.length : Int) := by omega
    rw [List.take_length, ← HTE.out] at hP
    have hall := all_any B _ _ _ hP (Nat.le_trans HLE.out (by decide))
    have ea : allB ⟨tuBt l, [], false⟩ = tuBt l := by simp [allB]
    have eb : allE ⟨tuBt l, [], false⟩ = 0 := rfl
    rw [ea, eb] at hall
    have hbw := HBW.out.size
    rw [HBB.out] at hbw
    have hBw : Below w.heap.size w wr := HBW.out.trans (hB.mono hbw)
    clear hP ea eb
    go_wp2_with fail
    refine hall.mono ?_
    rintro e u9 ⟨a9, c9, rfl, hr9, hb9⟩
    have hB9 := hBw.trans (hb9.mono hBw.size)
    clear hall; go_wp2
    go_ret2
    exact ⟨a9, c9, rfl, hr9.rd, hB9⟩
end Go.Proofs.YtngmcghmniakeaaGreat
