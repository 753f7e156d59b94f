/-
  foundrylaw19.ClassesMet: the walk.
-/
import Derived.Test.YtadgifeakfcljaaZ3
import Derived.Test.YtadgifeakfcljaaZ5
import Derived.BigQuiet
import Derived.Deep.QuietTactic
import Derived.WalkSmall
namespace Go.Proofs.Ytadgifeakfcljaa
open Go.RowKit Go.Maps
set_option linter.unusedSimpArgs false
set_option linter.unusedVariables false

/-- What is met, place by place. -/
structure MetL (ms : List Bool) (L : List Int) (sk : Bool) (i : Int) (A l : List Int) : Prop where
  len : l.length = A.length
  pos : 0 < l.length
  fst : l.getD 0 0 = i
  pl : plB L i = true
  ok : ∀ k, k < l.length → ∃ m : Nat, l.getD k 0 = (m : Int) ∧ m < L.length ∧ L.getD m 0 = A.getD k 0 ∧ ∀ j, j + 1 = k → l.getD j 0 < (m : Int) ∧ ∀ n : Nat, l.getD j 0 < (n : Int) → n < m → psB ms L sk n = true
theorem met_l {ms : List Bool} {L : List Int} {sk : Bool} {i : Int} {A l : List Int} (h : meQ ms L sk i A = some l) : MetL ms L sk i A l := by
  cases A with
  | nil => cases h
  | cons g t =>
    by_cases hc : plB L i = true ∧ L.getD i.toNat 0 = g
    · rw [meQ, if_pos hc] at h
      cases hr : meF ms L sk i t with
      | none => rw [hr] at h; cases h
      | some r =>
        rw [hr] at h
        have hl : i :: r = l := by injection h
        subst hl
        have hM := meF_met t i r hc.1 hr
        have hp := plB_iff.1 hc.1
        refine ⟨by rw [List.length_cons, List.length_cons, hM.len], Nat.succ_pos _, rfl, hc.1, fun k hk => ?_⟩
        cases k with
        | zero => exact ⟨i.toNat, by show i = _; omega, by omega, hc.2, fun j hj => by omega⟩
        | succ k =>
          have hk' : k < r.length := by simpa using hk
          obtain ⟨o1, o2, o3, o4⟩ := hM.ok k hk'
          have e1 : (i :: r).getD (k + 1) 0 = r.getD k 0 := rfl
          have e2 : (i :: r).getD k 0 = if k = 0 then i else r.getD (k - 1) 0 := by
            cases k with
            | zero => rfl
            | succ k => rfl
          refine ⟨(r.getD k 0).toNat, by rw [e1]; omega, by omega, o2, fun j hj => ?_⟩
          obtain rfl : j = k := by omega
          rw [e2]
          exact ⟨by omega, fun n h1 h2 => o4 n h1 (by omega)⟩
    · rw [meQ, if_neg hc] at h
      cases h
theorem meB_no {ms : List Bool} {L : List Int} {sk : Bool} {i : Int} {A : List Int} (h : meQ ms L sk i A = none) : meB ms L sk i A = false ∧ meL ms L sk i A = [] := by unfold meB meL; rw [h]; exact ⟨rfl, rfl⟩
theorem meB_yes {ms : List Bool} {L : List Int} {sk : Bool} {i : Int} {A l : List Int} (h : meQ ms L sk i A = some l) : meB ms L sk i A = true ∧ meL ms L sk i A = l := by unfold meB meL; rw [h]; exact ⟨rfl, rfl⟩
theorem five_cY {n b c p q r g j g2 j2 : Nat} {w U : World} {v0 v1 v2 v3 v4 : Value} (hb : Below n w U) (hlt : b < n) (hc : c < n) (hg : g < n) (hg2 : g2 < n)
    (hC : w.cell? ⟨b, p, none⟩ = some v0 ∧ w.cell? ⟨b, q, none⟩ = some v1 ∧ w.cell? ⟨c, r, none⟩ = some v2 ∧ w.cell? ⟨g, j, none⟩ = some v3 ∧ w.cell? ⟨g2, j2, none⟩ = some v4) :
    U.cell? ⟨b, p, none⟩ = some v0 ∧ U.cell? ⟨b, q, none⟩ = some v1 ∧ U.cell? ⟨c, r, none⟩ = some v2 ∧ U.cell? ⟨g, j, none⟩ = some v3 ∧ U.cell? ⟨g2, j2, none⟩ = some v4 :=
  ⟨(hb.cell (p := ⟨b, p, none⟩) hlt).trans hC.1, (hb.cell (p := ⟨b, q, none⟩) hlt).trans hC.2.1, (hb.cell (p := ⟨c, r, none⟩) hc).trans hC.2.2.1, (hb.cell (p := ⟨g, j, none⟩) hg).trans hC.2.2.2.1, (hb.cell (p := ⟨g2, j2, none⟩) hg2).trans hC.2.2.2.2⟩

set_option maxHeartbeats 16000000 in
set_option maxRecDepth 100000 in
theorem classesMet_any (S : Nat → Prop) (a : Option Addr) (ca : Nat) (L : List Int) (b : Option Addr) (cb : Nat) (ms : List Bool) (i : Int) (q : Option Addr) (cq : Nat) (A : List Int) (sk : Bool) (w : World) (hL : Ri w a ca L) (hm : Gr El.bool S w b cb ms) (hi : I64 i) (hA : Ri w q cq A) :
    Calls Try.prog 6 #[.agg #[.slice a L.length ca, .slice b ms.length cb], .int .i64 i, .agg #[.slice q A.length cq, .bool sk]] w fun e w' => e = .returned (.bool true) ∧ Below w.heap.size w w' := by
  have k1 := hL.lenB
  have k2 := hm.lenB
  have k3 := hA.lenB
  obtain ⟨W0, hW0, X1, Y1, hbW⟩ : ∃ W0, W0 = (w.alloc (.cells #[.slice a L.length ca, .slice b ms.length cb] 25)).alloc (.cells #[.slice q A.length cq, .bool sk] 33) ∧ Bk 25 W0 w.heap.size [.slice a L.length ca, .slice b ms.length cb] ∧ Bk 33 W0 (w.heap.size + 1) [.slice q A.length cq, .bool sk] ∧ Below w.heap.size w W0 := ⟨_, rfl, (Bk.new _ _ _).below (bl1 _), Bk.new1 _ _ _ _, bl2 _ _⟩
  obtain ⟨x0, x1, -⟩ := X1.two
  obtain ⟨z0, z1, -⟩ := Y1.two
  have HL : Hid (∀ U, Below w.heap.size w U → Ri U a ca L) := fun U hU => hL.below hU
  have HM : Hid (∀ U, Below w.heap.size w U → Gr El.bool S U b cb ms) := fun U hU => hm.below hU
  have HA : Hid (∀ U, Below w.heap.size w U → Ri U q cq A) := fun U hU => hA.below hU
  have HI : Hid (I64 i) := hi
  clear hL hm hi hA
  go_enter Try.func6, Try.ntmps6
  go_upto_region 1 with fail
  rw [← hW0]
  clear hW0
  go_wp2_with fail
  refine (awake19_any _).mono ?_
  rintro e y1 ⟨rfl, hb1⟩
  replace hbW := hbW.trans (hb1.mono hbW.size)
  replace X1 := X1.below hb1
  replace Y1 := Y1.below hb1
  clear hb1 x0 x1 z0 z1
  obtain ⟨x0, x1, -⟩ := X1.two
  have hfe := few19_any a ca L b cb ms y1 k1 k2
  cases hf : feB L ms with
  | false =>
    rw [hf] at hfe
    clear hf
    go_wp2_with fail
    refine hfe.mono ?_
    rintro e y2 ⟨rfl, hb2⟩
    replace hbW := hbW.trans (hb2.mono hbW.size)
    clear hfe hb2 x0 x1 X1 Y1
    go_wp2_with fail
    refine (awake19_any _).mono ?_
    rintro e y3 ⟨rfl, hb3⟩
    have hfin := hbW.trans (hb3.mono hbW.size)
    clear hb3
    go_wp2
    go_ret
    exact ⟨rfl, hfin⟩
  | true =>
  rw [hf] at hfe
  have HFE : Hid (L.length ≤ 200 ∧ ms.length ≤ 1000) := feB_iff.1 hf
  clear hf
  go_wp2_with fail
  refine hfe.mono ?_
  rintro e y2 ⟨rfl, hb2⟩
  replace hbW := hbW.trans (hb2.mono hbW.size)
  replace X1 := X1.below hb2
  replace Y1 := Y1.below hb2
  clear hfe hb2 x0 x1
  obtain ⟨x0, x1, -⟩ := X1.two
  obtain ⟨z0, z1, -⟩ := Y1.two
  by_cases hA2 : 200 < A.length
  · have d1 : decide ((200 : Int) < (A.length : Int)) = true := decide_eq_true (by omega)
    have d1n : decide (200 < A.length) = true := decide_eq_true hA2
    clear hA2 X1 Y1
    go_wp2_with fail
    refine (awake19_any _).mono ?_
    rintro e y3 ⟨rfl, hb3⟩
    have hfin := hbW.trans (hb3.mono hbW.size)
    clear hb3
    go_wp2
    go_ret
    exact ⟨rfl, hfin⟩
  have d1 : decide ((200 : Int) < (A.length : Int)) = false := decide_eq_false (by omega)
  have d1n : decide (200 < A.length) = false := decide_eq_false hA2
  have hcm := cmeet_any S a ca L b cb ms i q cq A sk y2 (HL.out _ hbW) (HM.out _ hbW) HI.out (HA.out _ hbW) (by omega)
  go_wp2_with fail
  refine hcm.mono ?_
  rintro e y3 ⟨⟨v3, rfl, hv3⟩, hb3⟩
  replace hbW := hbW.trans (hb3.mono hbW.size)
  replace X1 := X1.below hb3
  replace Y1 := Y1.below hb3
  clear hcm hb3 x0 x1 z0 z1 d1 d1n
  have hxl := X1.lt
  have hyl := Y1.lt
  obtain ⟨x0, x1, -⟩ := X1.two
  obtain ⟨z0, z1, -⟩ := Y1.two
  obtain ⟨a3, c3, rfl, R3⟩ := hv3.slice
  clear hv3
  have HB3 : Hid (Below w.heap.size w y3) := hbW
  cases hme : meQ ms L sk i A with
  | none =>
    obtain ⟨hB, hM⟩ := meB_no hme
    rw [hB, hM]
    clear hB hM hme R3 X1 Y1 hbW
    go_wp2
    go_ret
    exact ⟨rfl, HB3.out⟩
  | some l =>
  obtain ⟨hB, hM⟩ := meB_yes hme
  have HML : Hid (_) := met_l hme
  rw [hM] at R3
  rw [hB, hM]
  have hln : l.length = A.length := HML.out.len
  have hl0 : 0 < l.length := HML.out.pos
  obtain ⟨b1, o1, rfl, hb1, c0⟩ := R3.at (Below.refl _ _) 0 hl0
  rw [Nat.add_zero, HML.out.fst] at c0
  obtain ⟨p1, p2⟩ := plB_iff.1 HML.out.pl
  obtain ⟨p, rfl⟩ : ∃ p : Nat, i = (p : Int) := ⟨i.toNat, by omega⟩
  have HR3 : Hid (Ri y3 (some ⟨b1, o1, none⟩) c3 l) := R3
  have HX : Hid (Bk 25 y3 w.heap.size [.slice a L.length ca, .slice b ms.length cb]) := X1
  have HY : Hid (Bk 33 y3 (w.heap.size + 1) [.slice q A.length cq, .bool sk]) := Y1
  have HLN : Hid (l.length = A.length) := hln
  have e1 : ((l.length : Int) != (A.length : Int)) = false := by rw [hln]; simp
  have e2 : ((p : Int) != (p : Int)) = false := by simp
  have e3 : (0 : Int) < (l.length : Int) := by omega
  have hl200 : l.length ≤ 200 := by omega
  have hL200 : L.length ≤ 200 := HFE.out.1
  clear hB hM hme R3 X1 Y1 hbW hln
  go_wp2
  clear c0 x0 x1 z0 z1 e1 e2 e3
  go_loopw [9] (fun v wr => ∃ (k : Nat), k ≤ l.length ∧ v = .int .i64 k ∧ Below y3.heap.size y3 wr) (fun v _ => l.length - (intOf v).toNat)
  case atStart => exact ⟨0, Nat.zero_le _, rfl, Below.refl _ _⟩
  case round =>
    obtain ⟨k, hk, rfl, hBr⟩ := hrel
    by_cases hkn : k < l.length
    rotate_left
    · have g4 : ¬ (k : Int) < (l.length : Int) := by omega
      have hfin := HB3.out.trans (hBr.mono HB3.out.size)
      go_wp2
      go_ret
      exact ⟨rfl, hfin⟩
    obtain ⟨x0, x1, -⟩ := (HX.out.below hBr).two
    obtain ⟨z0, z1, -⟩ := (HY.out.below hBr).two
    have hBW := HB3.out.trans (hBr.mono HB3.out.size)
    obtain ⟨m, hm, hmL, hLA, hpv⟩ := HML.out.ok k hkn
    obtain ⟨b9, o9, e9, -, c1⟩ := HR3.out.at hBr k hkn
    cases e9
    obtain ⟨b2, o2, e9, hb2, c2⟩ := (HL.out _ (Below.refl _ _)).at hBW m hmL
    subst e9
    obtain ⟨b4, o4, e9, hb4, c4⟩ := (HA.out _ (Below.refl _ _)).at hBW k (by rw [← HLN.out]; exact hkn)
    subst e9
    rw [hm] at c1
    rw [hLA] at c2
    have HMM : Hid (l.getD k 0 = (m : Int)) := hm
    have HPV : Hid (∀ j, j + 1 = k → ∃ y : Int, l.getD j 0 = y ∧ I64 y ∧ wr.cell? ⟨b1, o1 + j, none⟩ = some (.int .i64 y) ∧ y < (m : Int) ∧ ∀ n : Nat, y < (n : Int) → n < m → psB ms L sk n = true) := fun j hj => by
      obtain ⟨b9, o9, e9, -, c9⟩ := HR3.out.at hBr j (by omega)
      cases e9
      exact ⟨_, rfl, HR3.out.i64 (by omega), c9, (hpv j hj).1, (hpv j hj).2⟩
    obtain ⟨y0, hy0⟩ : ∃ y, A.getD k 0 = y := ⟨_, rfl⟩
    rw [hy0] at c2 c4
    have i1 : (0 : Int) ≤ (k : Int) := by omega
    have i2 : (k : Int) < (l.length : Int) := by omega
    have i2a : (k : Int) < (A.length : Int) := by have := HLN.out; omega
    have i3 : (0 : Int) ≤ (m : Int) := by omega
    have i4 : (m : Int) < (L.length : Int) := by omega
    have g1 : decide ((m : Int) < 0) = false := decide_eq_false (by omega)
    have g2 : decide ((L.length : Int) ≤ (m : Int)) = false := decide_eq_false (by omega)
    have g2n : decide (L.length ≤ m) = false := decide_eq_false (by omega)
    have g3 : ((y0 : Int) != (y0 : Int)) = false := by simp
    clear hm hLA hpv hy0
    rcases Nat.eq_zero_or_pos k with hk0 | hk0
    · have d7 : decide ((0 : Int) < (k : Int)) = false := decide_eq_false (by omega)
      have d7n : decide (0 < k) = false := decide_eq_false (by omega)
      have hng : ¬ (0 : Int) < (k : Int) := by omega
      have HK0 : Hid (k = 0) := hk0
      clear hk0 HPV
      go_wp2_with fail
      go_quiet (fail)
      have hBq := below_drewN hBr nq
      generalize wr.drewN nq = wq at hBq ⊢
      clear c1 c2 c4 x0 x1 z0 z1 hBr hBW
      go_wp2
      go_loopw [10] (fun v wx => ∃ n : Nat, v = .int .i64 n ∧ n ≤ 300 ∧ Below y3.heap.size y3 wx) (fun _ _ => 0)
      case atStart => exact ⟨p + 1, by go_num, by omega, hBq⟩
      case round =>
        clear hBq
        rename World => wz
        obtain ⟨n, rfl, hn3, hBq⟩ := hrel
        go_wp2
        go_roundw
        case rel => exact ⟨k + 1, by omega, by go_num, hBq⟩
        case measure => simp [intOf]; omega
    obtain ⟨j, hj⟩ : ∃ j, j + 1 = k := ⟨k - 1, by omega⟩
    obtain ⟨y, hjy, ⟨r2, r3⟩, c5, hlt, hbt⟩ := HPV.out j hj
    have HBT : Hid (∀ n : Nat, y < (n : Int) → n < m → psB ms L sk n = true) := hbt
    have HJY : Hid (l.getD j 0 = y) := hjy
    have HJ : Hid (j + 1 = k) := hj
    have s1 : (k : Int) - 1 = (j : Int) := by omega
    have s2 : IntKind.i64.wrap ((k : Int) - 1) = (j : Int) := by rw [s1]; exact wrapi64y (by omega) (by omega)
    have s3 : IntKind.i64.wrap (j : Int) = (j : Int) := wrapi64y (by omega) (by omega)
    have s4 : j < l.length := by omega
    have s5 : (0 : Int) ≤ (j : Int) := by omega
    have s6 : (j : Int) < (l.length : Int) := by omega
    have d7 : decide ((0 : Int) < (k : Int)) = true := decide_eq_true (by omega)
    have d7n : decide (0 < k) = true := decide_eq_true (by omega)
    have d8 : decide ((m : Int) ≤ y) = false := decide_eq_false (by omega)
    have hng : (0 : Int) < (k : Int) := by omega
    have hb2r : b2 < y3.heap.size := Nat.lt_of_lt_of_le hb2 HB3.out.size
    clear hk0 HPV hj hbt hjy
    go_wp2_with fail
    go_quiet (fail)
    have hBq := below_drewN hBr nq
    generalize wr.drewN nq = wq at hBq ⊢
    clear c1 c2 c4 c5 x0 x1 z0 z1 hBr hBW
    go_wp2
    go_loopw [10] (fun v wx => ∃ n : Nat, v = .int .i64 n ∧ n ≤ 300 ∧ Below y3.heap.size y3 wx) (fun v _ => m - (intOf v).toNat)
    case atStart => exact ⟨p + 1, by go_num, by omega, hBq⟩
    case round =>
      clear hBq
      rename World => wz
      obtain ⟨n, rfl, hn3, hBq⟩ := hrel
      have hBW := HB3.out.trans (hBq.mono HB3.out.size)
      obtain ⟨b9, o9, e9, -, c1⟩ := HR3.out.at hBq k hkn
      cases e9
      obtain ⟨b9, o9, e9, -, c5⟩ := HR3.out.at hBq j s4
      cases e9
      rw [HMM.out] at c1
      rw [HJY.out] at c5
      by_cases hnm : n < m
      rotate_left
      · have g5 : decide ((n : Int) < (m : Int)) = false := decide_eq_false (by omega)
        have g5n : decide (n < m) = false := decide_eq_false hnm
        go_wp2
        go_roundw
        case rel => exact ⟨k + 1, by omega, by go_num, hBq⟩
        case measure => simp [intOf]; omega
      have g5 : decide ((n : Int) < (m : Int)) = true := decide_eq_true (by omega)
      have g5n : decide (n < m) = true := decide_eq_true hnm
      by_cases hyn : y < (n : Int)
      rotate_left
      · have g6 : decide (y < (n : Int)) = false := decide_eq_false hyn
        clear hyn
        go_upto_region 16 with fail
        refine wp_region_held_drew (S := fun w9 => w9.cell? ⟨b1, o1 + j, none⟩ = some (.int .i64 y)) (by kernel_rfl) ?_ (fun hHeld => ?_)
        · (try dsimp only)
          go_keep
        have hdr : Below wz.heap.size wz wz.drew := (Below.refl _ _).drew
        generalize wz.drew = Z at hdr hHeld ⊢
        clear c1 c5
        refine hT 0 hHeld ?_
        refine hT 1 hHeld ?_
        refine hT 2 hHeld ?_
        refine hT 3 hHeld ?_
        refine hT 4 hHeld ?_
        refine hT 5 hHeld ?_
        refine hT 6 hHeld ?_
        refine hT 7 hHeld ?_
        refine hN 8 hHeld ?_
        refine hN 9 hHeld ?_
        refine hN 10 hHeld ?_
        refine hN 11 hHeld ?_
        refine hN 12 hHeld ?_
        refine hN 13 hHeld ?_
        refine hN 14 hHeld ?_
        refine hN 15 hHeld ?_
        refine hN 16 hHeld ?_
        refine hN 17 hHeld ?_
        refine hN 18 hHeld ?_
        refine hN 19 hHeld ?_
        refine hN 20 hHeld ?_
        refine hN 21 hHeld ?_
        refine hT 22 hHeld ?_
        refine wpAnyH_done (by kernel_rfl) ?_ _
        have hB9 := hBq.trans (hdr.mono hBq.size)
        clear hHeld hdr hBq hBW
        go_wp2
        go_roundw
        case rel => exact ⟨n + 1, by go_num, by omega, hB9⟩
        case measure => simp [intOf]; omega
      have g6 : decide (y < (n : Int)) = true := decide_eq_true hyn
      have hps := HBT.out n hyn hnm
      cases sk with
      | false => rw [psB_sk rfl] at hps; cases hps
      | true =>
      obtain ⟨b9, o9, e9, -, c2⟩ := (HL.out _ (Below.refl _ _)).at hBW n (by omega)
      cases e9
      have HGI : Hid (I64 (L.getD n 0)) := (HL.out _ (Below.refl _ _)).i64 (by omega)
      obtain ⟨g, hg⟩ : ∃ g, L.getD n 0 = g := ⟨_, rfl⟩
      rw [psB_yes hg] at hps
      rw [hg] at c2 HGI
      have HCM : Hid (∀ U, Below w.heap.size w U → Calls Try.prog 14 #[.slice b ms.length cb, .int .i64 g] U fun e w' => e = .returned (.bool true) ∧ Below U.heap.size U w') := fun U hU => by
        have := cmark_any S b cb ms g U (HM.out U hU) HGI.out
        rw [hps] at this
        exact this
      obtain ⟨x0, x1, -⟩ := (HX.out.below hBq).two
      obtain ⟨-, z1, -⟩ := (HY.out.below hBq).two
      have HC0 : Hid (_) := And.intro x0 (And.intro x1 (And.intro z1 (And.intro c5 c2)))
      have HBX : Hid (Below w.heap.size w wz) := hBW
      have q1 : w.heap.size < wz.heap.size := Nat.lt_of_lt_of_le hxl hBq.size
      have q2 : w.heap.size + 1 < wz.heap.size := Nat.lt_of_lt_of_le hyl hBq.size
      have q3 : b1 < wz.heap.size := Nat.lt_of_lt_of_le hb1 hBq.size
      have q4 : b2 < wz.heap.size := Nat.lt_of_lt_of_le hb2r hBq.size
      have i5 : (0 : Int) ≤ (n : Int) := by omega
      have i6 : (n : Int) < (L.length : Int) := by omega
      clear hps hg hBW hyn
      go_upto_region 16 with fail
      refine wp_region_held_drew (S := fun w9 => w9.cell? ⟨w.heap.size, 0, none⟩ = some (.slice (some ⟨b2, o2, none⟩) L.length ca) ∧ w9.cell? ⟨w.heap.size, 1, none⟩ = some (.slice b ms.length cb) ∧ w9.cell? ⟨w.heap.size + 1, 1, none⟩ = some (.bool true) ∧ w9.cell? ⟨b1, o1 + j, none⟩ = some (.int .i64 y) ∧ w9.cell? ⟨b2, o2 + n, none⟩ = some (.int .i64 g)) (by kernel_rfl) ?_ (fun hHeld => ?_)
      · (try dsimp only)
        go_keep
      have hdr : Below wz.heap.size wz wz.drew := (Below.refl _ _).drew
      generalize wz.drew = Z at hdr hHeld ⊢
      clear c1 c2 c5 x0 x1 z1
      refine hT 0 hHeld ?_
      refine hT 1 hHeld ?_
      refine hT 2 hHeld ?_
      refine hT 3 hHeld ?_
      refine hT 4 hHeld ?_
      refine hT 5 hHeld ?_
      refine hT 6 hHeld ?_
      refine hT 7 hHeld ?_
      refine hT 8 hHeld ?_
      refine hT 9 hHeld ?_
      refine hT 10 hHeld ?_
      refine hT 11 hHeld ?_
      refine hT 12 hHeld ?_
      refine hT 13 hHeld ?_
      refine hT 14 hHeld ?_
      refine hT 15 hHeld ?_
      refine hT 16 hHeld ?_
      refine hT 17 hHeld ?_
      refine hT 18 hHeld ?_
      refine hCall (i := 19) rfl (by kernel_rfl) (by rfl) (fun K hK => ?_)
      go_simp
      refine (HCM.out _ (HBX.out.trans (hdr.mono HBX.out.size))).mono ?_
      rintro e v19 ⟨rfl, hb19⟩
      replace hdr := hdr.trans (hb19.mono hdr.size)
      clear hb19
      go_wp2_with fail
      refine hK.out _ _ ?_ (fun hHeld => ?_)
      · (try dsimp only)
        exact five_cY hdr q1 q2 q3 q4 HC0.out
      clear hK K
      try simp only [Act.put, List.setIfInBounds_toArray, List.set_cons_zero, List.set_cons_succ]
      refine hT 20 hHeld ?_
      refine hT 21 hHeld ?_
      refine hT 22 hHeld ?_
      refine wpAnyH_done (by kernel_rfl) ?_ _
      have hB9 := hBq.trans (hdr.mono hBq.size)
      clear hHeld hdr hBq HC0 HCM HBX
      go_wp2
      go_roundw
      case rel => exact ⟨n + 1, by go_num, by omega, hB9⟩
      case measure => simp [intOf]; omega

end Go.Proofs.Ytadgifeakfcljaa
