/-
  foundryref20.rule: the walk.
-/
import Derived.Test.YtechkkefpigcaaaDoorZL6
namespace Go.Proofs.YtechkkefpigcaaaDoor
open Go.RowKit Go.Maps
set_option linter.unusedSimpArgs false
set_option linter.unusedVariables false

theorem zr_no {r : Ru} (h : ¬ (r.x = (0, 0) ∧ r.y = (0, 0) ∧ r.w = (0, 0))) {l : List Lk} {kd g : Int} : ruB l kd r g = false := by
  unfold ruB
  cases hz : zsB r with
  | false => rfl
  | true =>
    unfold zsB at hz
    simp only [Bool.and_eq_true, decide_eq_true_iff] at hz
    exact absurd hz h

set_option maxHeartbeats 8000000 in
set_option maxRecDepth 100000 in
theorem srule_any (S : Nat → Prop) (a : Option Addr) (ca : Nat) (l : List Lk) (kd : Int) (a1 : Option Addr) (c1 : Nat) (a2 : Option Addr) (c2 : Nat) (inn out : List Int) (ap lk x1 x2 y1 y2 w1 w2 g : Int) (w : World)
    (hl : Gr LkE S w a ca l) (hk : I64 kd) (hap : I64 ap) (hlk : I64 lk) (hin : Ri w a1 c1 inn) (hou : Ri w a2 c2 out) (hg : I64 g) :
    Calls Tryd.prog 29 #[.slice a l.length ca, .int .i64 kd, .agg #[.slice a1 inn.length c1, .slice a2 out.length c2, .int .i64 ap, .int .i64 lk, .int .i64 x1, .int .i64 x2, .int .i64 y1, .int .i64 y2, .int .i64 w1, .int .i64 w2], .int .i64 g] w fun e w' =>
      e = .returned (.bool (ruB l kd ⟨inn, out, ap, lk, (x1, x2), (y1, y2), (w1, w2)⟩ g)) ∧ Below w.heap.size w w' := by
  have kl := hl.lenB
  have kin := hin.lenB
  have kou := hou.lenB
  obtain ⟨W, hW, X1, hbW⟩ : ∃ W, W = w.alloc (.cells #[.slice a1 inn.length c1, .slice a2 out.length c2, .int .i64 ap, .int .i64 lk, .int .i64 x1, .int .i64 x2, .int .i64 y1, .int .i64 y2, .int .i64 w1, .int .i64 w2] 46) ∧ Bk 46 W w.heap.size (ruV a1 c1 a2 c2 ⟨inn, out, ap, lk, (x1, x2), (y1, y2), (w1, w2)⟩) ∧ Below w.heap.size w W := ⟨_, rfl, Bk.new _ _ (ruV a1 c1 a2 c2 ⟨inn, out, ap, lk, (x1, x2), (y1, y2), (w1, w2)⟩), bl1 _⟩
  obtain ⟨q0, q1, q2, q3, q4, q5, q6, q7, q8, q9⟩ := X1.ru
  dsimp only at q0 q1 q2 q3 q4 q5 q6 q7 q8 q9
  have HNO : Hid (¬ (((x1, x2) : Int × Int) = (0, 0) ∧ ((y1, y2) : Int × Int) = (0, 0) ∧ ((w1, w2) : Int × Int) = (0, 0)) → ruB l kd ⟨inn, out, ap, lk, (x1, x2), (y1, y2), (w1, w2)⟩ g = false) := fun h => zr_no h
  have HALL : Hid (∀ U, Below W.heap.size W U → ∀ p q : Nat, Calls Tryd.prog 40 #[.slice a1 inn.length c1, .int .i64 g, .int .i64 p, .int .i64 q] U fun e w' => e = .returned (.bool (alB inn g p q)) ∧ Below U.heap.size U w') := fun U hU p q => sallG_any a1 c1 inn g p q U ((hin.below hbW).below hU) hg
  have HOUT : Hid (∀ U, Below W.heap.size W U → ∀ p q : Nat, Calls Tryd.prog 40 #[.slice a2 out.length c2, .int .i64 g, .int .i64 p, .int .i64 q] U fun e w' => e = .returned (.bool (alB out g p q)) ∧ Below U.heap.size U w') := fun U hU p q => sallG_any a2 c2 out g p q U ((hou.below hbW).below hU) hg
  have HXB : Hid (w.heap.size < W.heap.size) := X1.lt
  clear X1 hin hou
  by_cases e0 : x1 = 0
  rotate_left
  · have HF : Hid (_ = false) := HNO.out (fun h => e0 (congrArg Prod.fst h.1))
    clear hl HNO HALL HOUT HXB
    go_enter Tryd.func29, Tryd.ntmps29
    go_upto_region 1 with fail
    rw [← hW]
    clear hW
    go_wp2
    go_ret
    exact ⟨rt_bool HF.out.symm, hbW⟩
  subst e0
  by_cases e1 : x2 = 0
  rotate_left
  · have HF : Hid (_ = false) := HNO.out (fun h => e1 (congrArg Prod.snd h.1))
    clear hl HNO HALL HOUT HXB
    go_enter Tryd.func29, Tryd.ntmps29
    go_upto_region 1 with fail
    rw [← hW]
    clear hW
    go_wp2
    go_ret
    exact ⟨rt_bool HF.out.symm, hbW⟩
  subst e1
  by_cases e2 : y1 = 0
  rotate_left
  · have HF : Hid (_ = false) := HNO.out (fun h => e2 (congrArg Prod.fst h.2.1))
    clear hl HNO HALL HOUT HXB
    go_enter Tryd.func29, Tryd.ntmps29
    go_upto_region 1 with fail
    rw [← hW]
    clear hW
    go_wp2
    go_ret
    exact ⟨rt_bool HF.out.symm, hbW⟩
  subst e2
  by_cases e3 : y2 = 0
  rotate_left
  · have HF : Hid (_ = false) := HNO.out (fun h => e3 (congrArg Prod.snd h.2.1))
    clear hl HNO HALL HOUT HXB
    go_enter Tryd.func29, Tryd.ntmps29
    go_upto_region 1 with fail
    rw [← hW]
    clear hW
    go_wp2
    go_ret
    exact ⟨rt_bool HF.out.symm, hbW⟩
  subst e3
  by_cases e4 : w1 = 0
  rotate_left
  · have HF : Hid (_ = false) := HNO.out (fun h => e4 (congrArg Prod.fst h.2.2))
    clear hl HNO HALL HOUT HXB
    go_enter Tryd.func29, Tryd.ntmps29
    go_upto_region 1 with fail
    rw [← hW]
    clear hW
    go_wp2
    go_ret
    exact ⟨rt_bool HF.out.symm, hbW⟩
  subst e4
  by_cases e5 : w2 = 0
  rotate_left
  · have HF : Hid (_ = false) := HNO.out (fun h => e5 (congrArg Prod.snd h.2.2))
    clear hl HNO HALL HOUT HXB
    go_enter Tryd.func29, Tryd.ntmps29
    go_upto_region 1 with fail
    rw [← hW]
    clear hW
    go_wp2
    go_ret
    exact ⟨rt_bool HF.out.symm, hbW⟩
  subst e5
  have HZ : Hid (ruB l kd ⟨inn, out, ap, lk, (0, 0), (0, 0), (0, 0)⟩ g = (if kd = 4 then alB inn g 1 8 && cxB l ⟨inn, out, ap, lk, (0, 0), (0, 0), (0, 0)⟩
    else (decide (ap = 0) && decide (lk = 0)) && (if kd = 1 then alB inn g 1 1 && alB out g 1 1 else if kd = 2 then alB inn g 1 1 && alB out g 0 8 else alB inn g 2 8 && alB out g 1 1))) := by
    show _ = _
    unfold ruB
    rw [zs_yes ⟨rfl, rfl, rfl⟩, Bool.true_and]
  clear HNO
  by_cases h4 : kd = 4
  · subst h4
    rw [if_pos rfl] at HZ
    have hc1 : Calls Tryd.prog 40 #[.slice a1 inn.length c1, .int .i64 g, .int .i64 1, .int .i64 8] W fun e w' => e = .returned (.bool (alB inn g 1 8)) ∧ Below W.heap.size W w' := HALL.out W (Below.refl _ _) 1 8
    have HC : Hid (cxB l ⟨inn, out, ap, lk, (0, 0), (0, 0), (0, 0)⟩ = (decide (out.length = 0) && (decide (0 ≤ ap) && (decide (ap < (inn.length : Int)) && (decide (0 ≤ lk) && (decide (lk < (l.length : Int)) && puB (l.getD lk.toNat Lk.none).kd)))))) := rfl
    rw [HC.out] at HZ
    clear HC HALL HOUT
    obtain ⟨A, hA⟩ : ∃ A, alB inn g 1 8 = A := ⟨_, rfl⟩
    rw [hA] at hc1 HZ
    clear hA
    cases A with
    | false =>
      have HF : Hid (_ = false) := HZ.out
      clear HZ hl HXB
      go_enter Tryd.func29, Tryd.ntmps29
      go_upto_region 1 with fail
      rw [← hW]
      clear hW
      go_wp2_with fail
      refine hc1.mono ?_
      rintro e u ⟨rfl, hbu⟩
      have hbU := hbW.trans (hbu.mono hbW.size)
      clear hc1
      go_wp2
      go_ret
      exact ⟨rt_bool HF.out.symm, hbU⟩
    | true =>
      rw [Bool.true_and] at HZ
      have t0 : ∀ u, Below W.heap.size W u → u.cell? ⟨w.heap.size, 0, none⟩ = some (.slice a1 inn.length c1) := fun u h => (h.cell (p := ⟨w.heap.size, 0, none⟩) HXB.out).trans q0
      have t1 : ∀ u, Below W.heap.size W u → u.cell? ⟨w.heap.size, 1, none⟩ = some (.slice a2 out.length c2) := fun u h => (h.cell (p := ⟨w.heap.size, 1, none⟩) HXB.out).trans q1
      have t2 : ∀ u, Below W.heap.size W u → u.cell? ⟨w.heap.size, 2, none⟩ = some (.int .i64 ap) := fun u h => (h.cell (p := ⟨w.heap.size, 2, none⟩) HXB.out).trans q2
      have t3 : ∀ u, Below W.heap.size W u → u.cell? ⟨w.heap.size, 3, none⟩ = some (.int .i64 lk) := fun u h => (h.cell (p := ⟨w.heap.size, 3, none⟩) HXB.out).trans q3
      have HTS : Hid (∀ u, Below W.heap.size W u → u.cell? ⟨w.heap.size, 0, none⟩ = some (.slice a1 inn.length c1) ∧ u.cell? ⟨w.heap.size, 1, none⟩ = some (.slice a2 out.length c2) ∧ u.cell? ⟨w.heap.size, 2, none⟩ = some (.int .i64 ap) ∧ u.cell? ⟨w.heap.size, 3, none⟩ = some (.int .i64 lk)) := fun u h => ⟨t0 u h, t1 u h, t2 u h, t3 u h⟩
      clear t0 t1 t2 t3
      by_cases p0 : out.length = 0
      rotate_left
      · have HF : Hid (ruB l 4 ⟨inn, out, ap, lk, (0, 0), (0, 0), (0, 0)⟩ g = false) := by rw [decide_eq_false p0, Bool.false_and] at HZ; exact HZ.out
        have g0 : ((out.length : Int) == 0) = false := by rw [beq_eq_false_iff_ne]; omega
        clear HZ p0 hl HXB
        go_enter Tryd.func29, Tryd.ntmps29
        go_upto_region 1 with fail
        rw [← hW]
        clear hW
        go_wp2_with fail
        refine hc1.mono ?_
        rintro e u ⟨rfl, hbu⟩
        have hbU := hbW.trans (hbu.mono hbW.size)
        clear hc1
        obtain ⟨r0, r1, r2, r3⟩ := HTS.out u hbu
        clear HTS hbu
        go_wp2
        go_ret
        exact ⟨rt_bool HF.out.symm, hbU⟩
      have g0 : ((out.length : Int) == 0) = true := by rw [beq_iff_eq]; omega
      rw [decide_eq_true p0, Bool.true_and] at HZ
      clear p0
      by_cases p1 : 0 ≤ ap
      rotate_left
      · have HF : Hid (ruB l 4 ⟨inn, out, ap, lk, (0, 0), (0, 0), (0, 0)⟩ g = false) := by rw [decide_eq_false p1, Bool.false_and] at HZ; exact HZ.out
        have g1 : decide (0 ≤ ap) = false := decide_eq_false p1
        clear HZ p1 hl HXB
        go_enter Tryd.func29, Tryd.ntmps29
        go_upto_region 1 with fail
        rw [← hW]
        clear hW
        go_wp2_with fail
        refine hc1.mono ?_
        rintro e u ⟨rfl, hbu⟩
        have hbU := hbW.trans (hbu.mono hbW.size)
        clear hc1
        obtain ⟨r0, r1, r2, r3⟩ := HTS.out u hbu
        clear HTS hbu
        go_wp2
        go_ret
        exact ⟨rt_bool HF.out.symm, hbU⟩
      have g1 : decide (0 ≤ ap) = true := decide_eq_true p1
      rw [g1, Bool.true_and] at HZ
      by_cases p2 : ap < (inn.length : Int)
      rotate_left
      · have HF : Hid (ruB l 4 ⟨inn, out, ap, lk, (0, 0), (0, 0), (0, 0)⟩ g = false) := by rw [decide_eq_false p2, Bool.false_and] at HZ; exact HZ.out
        have g2 : decide (ap < (inn.length : Int)) = false := decide_eq_false p2
        clear HZ p1 p2 hl HXB
        go_enter Tryd.func29, Tryd.ntmps29
        go_upto_region 1 with fail
        rw [← hW]
        clear hW
        go_wp2_with fail
        refine hc1.mono ?_
        rintro e u ⟨rfl, hbu⟩
        have hbU := hbW.trans (hbu.mono hbW.size)
        clear hc1
        obtain ⟨r0, r1, r2, r3⟩ := HTS.out u hbu
        clear HTS hbu
        go_wp2
        go_ret
        exact ⟨rt_bool HF.out.symm, hbU⟩
      have g2 : decide (ap < (inn.length : Int)) = true := decide_eq_true p2
      rw [g2, Bool.true_and] at HZ
      by_cases p3 : 0 ≤ lk
      rotate_left
      · have HF : Hid (ruB l 4 ⟨inn, out, ap, lk, (0, 0), (0, 0), (0, 0)⟩ g = false) := by rw [decide_eq_false p3, Bool.false_and] at HZ; exact HZ.out
        have g3 : decide (0 ≤ lk) = false := decide_eq_false p3
        clear HZ p1 p2 p3 hl HXB
        go_enter Tryd.func29, Tryd.ntmps29
        go_upto_region 1 with fail
        rw [← hW]
        clear hW
        go_wp2_with fail
        refine hc1.mono ?_
        rintro e u ⟨rfl, hbu⟩
        have hbU := hbW.trans (hbu.mono hbW.size)
        clear hc1
        obtain ⟨r0, r1, r2, r3⟩ := HTS.out u hbu
        clear HTS hbu
        go_wp2
        go_ret
        exact ⟨rt_bool HF.out.symm, hbU⟩
      have g3 : decide (0 ≤ lk) = true := decide_eq_true p3
      rw [g3, Bool.true_and] at HZ
      by_cases p4 : lk < (l.length : Int)
      rotate_left
      · have HF : Hid (ruB l 4 ⟨inn, out, ap, lk, (0, 0), (0, 0), (0, 0)⟩ g = false) := by rw [decide_eq_false p4, Bool.false_and] at HZ; exact HZ.out
        have g4 : decide (lk < (l.length : Int)) = false := decide_eq_false p4
        clear HZ p1 p2 p3 p4 hl HXB
        go_enter Tryd.func29, Tryd.ntmps29
        go_upto_region 1 with fail
        rw [← hW]
        clear hW
        go_wp2_with fail
        refine hc1.mono ?_
        rintro e u ⟨rfl, hbu⟩
        have hbU := hbW.trans (hbu.mono hbW.size)
        clear hc1
        obtain ⟨r0, r1, r2, r3⟩ := HTS.out u hbu
        clear HTS hbu
        go_wp2
        go_ret
        exact ⟨rt_bool HF.out.symm, hbU⟩
      have HF : Hid (ruB l 4 ⟨inn, out, ap, lk, (0, 0), (0, 0), (0, 0)⟩ g = puB (l.getD lk.toNat Lk.none).kd) := by rw [decide_eq_true p4, Bool.true_and] at HZ; exact HZ.out
      obtain ⟨n, rfl⟩ : ∃ n : Nat, lk = (n : Int) := ⟨lk.toNat, by omega⟩
      rw [Int.toNat_natCast] at HF
      have hn : n < l.length := by omega
      have g4 : decide ((n : Int) < (l.length : Int)) = true := decide_eq_true p4
      have g4n : decide (n < l.length) = true := decide_eq_true hn
      have HLL : Hid (Gr LkE S W a ca l) := hl.below hbW
      obtain ⟨b, off, ra, rc, ea, hb, hkd, -, -, -, -⟩ := hl.lk hbW n hn
      have HD : Hid (∀ u, Below W.heap.size W u → u.cell? ⟨b, off + n * 3, none⟩ = some (.int .i64 (l.getD n Lk.none).kd)) := fun u hu => by
        obtain ⟨b', off', _, _, e', _, _, _, d0, _, _⟩ := HLL.out.lk hu n hn
        rw [ea] at e'
        cases e'
        exact d0
      subst ea
      obtain ⟨z, hz⟩ : ∃ z, (l.getD n Lk.none).kd = z := ⟨_, rfl⟩
      rw [hz] at hkd HF HD
      have hpu := fun U => sputs_any z U hkd
      clear HZ p1 p2 hl hz HLL HXB
      go_enter Tryd.func29, Tryd.ntmps29
      go_upto_region 1 with fail
      rw [← hW]
      clear hW
      go_wp2_with fail
      refine hc1.mono ?_
      rintro e u ⟨rfl, hbu⟩
      have hbU := hbW.trans (hbu.mono hbW.size)
      clear hc1
      obtain ⟨r0, r1, r2, r3⟩ := HTS.out u hbu
      have r4 := HD.out u hbu
      replace hpu := hpu u
      clear HTS hbu HD
      go_wp2_with fail
      refine hpu.mono ?_
      rintro e u2 ⟨rfl, rfl⟩
      clear hpu
      go_wp2
      go_ret
      exact ⟨rt_bool HF.out.symm, hbU⟩
  rw [if_neg h4] at HZ
  have g4 : (kd == 4) = false := beq_eq_false_iff_ne.2 h4
  clear h4 hl
  by_cases p1 : ap = 0
  rotate_left
  · have HF : Hid (ruB l kd ⟨inn, out, ap, lk, (0, 0), (0, 0), (0, 0)⟩ g = false) := by rw [decide_eq_false p1, Bool.false_and, Bool.false_and] at HZ; exact HZ.out
    have g1 : (ap != 0) = true := bne_iff_ne.2 p1
    clear HZ p1 HALL HOUT HXB
    go_enter Tryd.func29, Tryd.ntmps29
    go_upto_region 1 with fail
    rw [← hW]
    clear hW
    go_wp2
    go_ret
    exact ⟨rt_bool HF.out.symm, hbW⟩
  subst p1
  rw [decide_eq_true rfl, Bool.true_and] at HZ
  by_cases p2 : lk = 0
  rotate_left
  · have HF : Hid (ruB l kd ⟨inn, out, 0, lk, (0, 0), (0, 0), (0, 0)⟩ g = false) := by rw [decide_eq_false p2, Bool.false_and] at HZ; exact HZ.out
    have g2 : (lk != 0) = true := bne_iff_ne.2 p2
    clear HZ p2 HALL HOUT HXB
    go_enter Tryd.func29, Tryd.ntmps29
    go_upto_region 1 with fail
    rw [← hW]
    clear hW
    go_wp2
    go_ret
    exact ⟨rt_bool HF.out.symm, hbW⟩
  subst p2
  rw [decide_eq_true rfl, Bool.true_and] at HZ
  have HTS : Hid (∀ u, Below W.heap.size W u → u.cell? ⟨w.heap.size, 1, none⟩ = some (.slice a2 out.length c2)) := fun u h => (h.cell (p := ⟨w.heap.size, 1, none⟩) HXB.out).trans q1
  by_cases k1 : kd = 1
  · subst k1
    rw [if_pos rfl] at HZ
    have hc1 : Calls Tryd.prog 40 #[.slice a1 inn.length c1, .int .i64 g, .int .i64 1, .int .i64 1] W fun e w' => e = .returned (.bool (alB inn g 1 1)) ∧ Below W.heap.size W w' := HALL.out W (Below.refl _ _) 1 1
    have HOUT2 : Hid (∀ U, Below W.heap.size W U → Calls Tryd.prog 40 #[.slice a2 out.length c2, .int .i64 g, .int .i64 1, .int .i64 1] U fun e w' => e = .returned (.bool (alB out g 1 1)) ∧ Below U.heap.size U w') := fun U hU => HOUT.out U hU 1 1
    generalize alB inn g 1 1 = A1 at hc1 HZ
    generalize alB out g 1 1 = A2 at HOUT2 HZ
    clear HALL HOUT HXB
    go_enter Tryd.func29, Tryd.ntmps29
    go_upto_region 1 with fail
    rw [← hW]
    clear hW
    go_wp2_with fail
    refine hc1.mono ?_
    rintro e u ⟨rfl, hbu⟩
    have hbU := hbW.trans (hbu.mono hbW.size)
    clear hc1
    cases A1 with
    | false =>
      have HF : Hid (_ = false) := HZ.out
      clear HOUT2 HZ HTS hbu
      go_wp2
      go_ret
      exact ⟨rt_bool HF.out.symm, hbU⟩
    | true =>
      rw [Bool.true_and] at HZ
      have HF := HZ
      have r1 := HTS.out u hbu
      have hc2 := HOUT2.out u hbu
      clear HOUT2 HTS hbu q0 q1 q2 q3 q4 q5 q6 q7 q8 q9
      go_wp2_with fail
      refine hc2.mono ?_
      rintro e u2 ⟨rfl, hbu⟩
      have hbU2 := hbU.trans (hbu.mono hbU.size)
      clear hc2
      go_wp2
      go_ret
      exact ⟨rt_bool HF.out.symm, hbU2⟩
  rw [if_neg k1] at HZ
  have g1 : (kd == 1) = false := beq_eq_false_iff_ne.2 k1
  clear k1
  by_cases k2 : kd = 2
  · subst k2
    rw [if_pos rfl] at HZ
    have hc1 : Calls Tryd.prog 40 #[.slice a1 inn.length c1, .int .i64 g, .int .i64 1, .int .i64 1] W fun e w' => e = .returned (.bool (alB inn g 1 1)) ∧ Below W.heap.size W w' := HALL.out W (Below.refl _ _) 1 1
    have HOUT2 : Hid (∀ U, Below W.heap.size W U → Calls Tryd.prog 40 #[.slice a2 out.length c2, .int .i64 g, .int .i64 0, .int .i64 8] U fun e w' => e = .returned (.bool (alB out g 0 8)) ∧ Below U.heap.size U w') := fun U hU => HOUT.out U hU 0 8
    generalize alB inn g 1 1 = A1 at hc1 HZ
    generalize alB out g 0 8 = A2 at HOUT2 HZ
    clear HALL HOUT HXB
    go_enter Tryd.func29, Tryd.ntmps29
    go_upto_region 1 with fail
    rw [← hW]
    clear hW
    go_wp2_with fail
    refine hc1.mono ?_
    rintro e u ⟨rfl, hbu⟩
    have hbU := hbW.trans (hbu.mono hbW.size)
    clear hc1
    cases A1 with
    | false =>
      have HF : Hid (_ = false) := HZ.out
      clear HOUT2 HZ HTS hbu
      go_wp2
      go_ret
      exact ⟨rt_bool HF.out.symm, hbU⟩
    | true =>
      rw [Bool.true_and] at HZ
      have HF := HZ
      have r1 := HTS.out u hbu
      have hc2 := HOUT2.out u hbu
      clear HOUT2 HTS hbu q0 q1 q2 q3 q4 q5 q6 q7 q8 q9
      go_wp2_with fail
      refine hc2.mono ?_
      rintro e u2 ⟨rfl, hbu⟩
      have hbU2 := hbU.trans (hbu.mono hbU.size)
      clear hc2
      go_wp2
      go_ret
      exact ⟨rt_bool HF.out.symm, hbU2⟩
  rw [if_neg k2] at HZ
  have g2 : (kd == 2) = false := beq_eq_false_iff_ne.2 k2
  clear k2
  have hc1 : Calls Tryd.prog 40 #[.slice a1 inn.length c1, .int .i64 g, .int .i64 2, .int .i64 8] W fun e w' => e = .returned (.bool (alB inn g 2 8)) ∧ Below W.heap.size W w' := HALL.out W (Below.refl _ _) 2 8
  have HOUT2 : Hid (∀ U, Below W.heap.size W U → Calls Tryd.prog 40 #[.slice a2 out.length c2, .int .i64 g, .int .i64 1, .int .i64 1] U fun e w' => e = .returned (.bool (alB out g 1 1)) ∧ Below U.heap.size U w') := fun U hU => HOUT.out U hU 1 1
  generalize alB inn g 2 8 = A1 at hc1 HZ
  generalize alB out g 1 1 = A2 at HOUT2 HZ
  clear HALL HOUT HXB
  go_enter Tryd.func29, Tryd.ntmps29
  go_upto_region 1 with fail
  rw [← hW]
  clear hW
  go_wp2_with fail
  refine hc1.mono ?_
  rintro e u ⟨rfl, hbu⟩
  have hbU := hbW.trans (hbu.mono hbW.size)
  clear hc1
  cases A1 with
  | false =>
    have HF : Hid (_ = false) := HZ.out
    clear HOUT2 HZ HTS hbu
    go_wp2
    go_ret
    exact ⟨rt_bool HF.out.symm, hbU⟩
  | true =>
    rw [Bool.true_and] at HZ
    have HF := HZ
    have r1 := HTS.out u hbu
    have hc2 := HOUT2.out u hbu
    clear HOUT2 HTS hbu q0 q1 q2 q3 q4 q5 q6 q7 q8 q9
    go_wp2_with fail
    refine hc2.mono ?_
    rintro e u2 ⟨rfl, hbu⟩
    have hbU2 := hbU.trans (hbu.mono hbU.size)
    clear hc2
    go_wp2
    go_ret
    exact ⟨rt_bool HF.out.symm, hbU2⟩

end Go.Proofs.YtechkkefpigcaaaDoor
