/-
  foundrylaw21.PlaceAnchors: the walk.
-/
import Derived.Test.YtchdoakoelfenaaZJ25
import Derived.Test.YtchdoakoelfenaaZJ26
namespace Go.Proofs.Ytchdoakoelfenaa
open Go.RowKit Go.Maps
set_option linter.unusedSimpArgs false
set_option linter.unusedVariables false

set_option maxHeartbeats 16000000 in
set_option maxRecDepth 100000 in
theorem placeAnchors_any (a : Option Addr) (ca : Nat) (xs : List Nat) (b0 b1 : Int) (n : Int) (w : World) (hp : Rb w a ca xs) (hb0 : -128 ≤ b0 ∧ b0 < 128) (hb1 : -128 ≤ b1 ∧ b1 < 128) (hn : 0 ≤ n ∧ n < 256) :
    Calls Try.prog 6 #[.slice a xs.length ca, .agg #[.int .i8 b0, .int .i8 b1], .int .u8 n] w fun e w' => e = .returned (.bool true) ∧ Below w.heap.size w w' := by
  have kl : xs.length ≤ 9223372036854775807 := by have h1 := hp.le; have h2 := hp.cap; unfold maxLen at h2; omega
  obtain ⟨W, hW, BX, bel⟩ : ∃ W, W = w.alloc (.cells #[.int .i8 b0, .int .i8 b1] 47) ∧ Bk 47 W w.heap.size [.int .i8 b0, .int .i8 b1] ∧ Below w.heap.size w W := ⟨_, rfl, Bk.new _ _ _, bl1 _⟩
  have HP : Hid (Rb W a ca xs) := hp.below bel
  obtain ⟨q1, q2⟩ := hb0
  obtain ⟨q3, q4⟩ := hb1
  clear hp
  go_enter Try.func6, Try.ntmps6
  go_upto_region 1 with fail
  rw [← hW]
  clear hW
  have haw := awake21_any W
  go_wp2_with fail
  refine haw.mono ?_
  rintro e u1 ⟨rfl, hb⟩
  have HP : Hid (Rb u1 a ca xs) := HP.out.below hb
  replace BX := BX.below hb
  replace bel := bel.trans (hb.mono bel.size)
  clear haw hb
  by_cases n0 : xs.length < 2
  · have d0 : decide ((xs.length : Int) < (2 : Int)) = true := decide_eq_true (by omega)
    have e0 : decide (xs.length < 2) = true := decide_eq_true (by omega)
    have haw := awake21_any u1
    clear n0
    go_wp2_with fail
    refine haw.mono ?_
    rintro e u2 ⟨rfl, hb⟩
    have hfin := bel.trans (hb.mono bel.size)
    clear haw hb
    go_wp2
    go_ret
    exact ⟨rfl, hfin⟩
  have d0 : decide ((xs.length : Int) < (2 : Int)) = false := decide_eq_false (by omega)
  have e0 : decide (xs.length < 2) = false := decide_eq_false (by omega)
  by_cases n1 : 40 < xs.length
  · have d1 : decide ((40 : Int) < (xs.length : Int)) = true := decide_eq_true (by omega)
    have e1 : decide (40 < xs.length) = true := decide_eq_true (by omega)
    have haw := awake21_any u1
    clear n1
    go_wp2_with fail
    refine haw.mono ?_
    rintro e u2 ⟨rfl, hb⟩
    have hfin := bel.trans (hb.mono bel.size)
    clear haw hb
    go_wp2
    go_ret
    exact ⟨rfl, hfin⟩
  have d1 : decide ((40 : Int) < (xs.length : Int)) = false := decide_eq_false (by omega)
  have e1 : decide (40 < xs.length) = false := decide_eq_false (by omega)
  obtain ⟨m, hm⟩ : ∃ m, xs.length = m + 1 := ⟨xs.length - 1, by omega⟩
  rw [hm] at kl n0 n1 d0 d1 e0 e1 ⊢
  have HXL : Hid (xs.length = m + 1) := hm
  have HF0 : Hid (biL xs 0 = []) := rfl
  have HFS : Hid (∀ k, biL xs (k + 1) = biL xs k ++ [((xs.getD k 0 : Nat) : Int)]) := biL_succ xs
  have HFL : Hid (∀ k, (biL xs k).length = k) := biL_len xs
  have HFI : Hid (∀ z ∈ biL xs (m + 1), 0 ≤ z ∧ z ≤ 255) := biL_in HP.out.lim (m + 1)
  generalize biL xs = F at HF0 HFS HFL HFI
  clear hm
  obtain ⟨h0, h256⟩ := hn
  obtain ⟨b, hb⟩ : ∃ b : Nat, n.tmod (m : Int) = (b : Int) := ⟨(n.tmod (m : Int)).toNat, by rw [Int.tmod_eq_emod_of_nonneg h0]; exact (Int.toNat_of_nonneg (Int.emod_nonneg _ (by omega))).symm⟩
  have hbm : b < m := by
    rw [Int.tmod_eq_emod_of_nonneg h0] at hb
    have := Int.emod_lt_of_pos n (show (0 : Int) < (m : Int) by omega)
    omega
  have nz : ((m : Int) == 0) = false := beq_eq_false_iff_ne.2 (by omega)
  have j1 : ((m + 1 : Nat) : Int) - 1 = (m : Int) := by omega
  have j2 : ((m : Int) + 1) - 1 = (m : Int) := by omega
  have HA0 : Hid (anP (m + 1) b 0 = []) := rfl
  have HAS : Hid (∀ k, anP (m + 1) b (k + 1) = anP (m + 1) b k ++ [anG (m + 1) b k]) := anP_succ _ _
  have HAL : Hid (∀ k, (anP (m + 1) b k).length = k) := anP_len _ _
  have HAE : Hid (anP (m + 1) b (m + 1) = anL (m + 1) b) := anP_all _ _
  have HG1 : Hid (∀ i, ¬ b < i → i ≠ m → anG (m + 1) b i = 1) := fun i h1 h2 => anG_one h1 h2
  have HG2 : Hid (∀ i, b < i → i ≠ m → anG (m + 1) b i = 2) := fun i h1 h2 => anG_two h1 h2
  have HG3 : Hid (∀ i, i = m → anG (m + 1) b i = 3) := fun i h2 => anG_three h2
  generalize anP (m + 1) b = G at HA0 HAS HAL HAE
  have d2 : decide ((m : Int) + 1 < 2) = false := decide_eq_false (by omega)
  have d3 : decide (40 < (m : Int) + 1) = false := decide_eq_false (by omega)
  go_wp2
  clear d0 d1 d2 d3 e0 e1 hb nz j1 j2
  go_loopw [9, 10, 11] (fun va vb vi wr => ∃ k : Nat, k ≤ m + 1 ∧ vi = .int .i64 k ∧ Hid (Fam El.int 3 u1.heap.size wr [va, vb] [G k, F k]) ∧ Below u1.heap.size u1 wr) (fun _ _ vi _ => m + 1 - (intOf vi).toNat)
  case atStart => exact ⟨0, Nat.zero_le _, rfl, (by show Fam _ _ _ _ _ _; rw [HA0.out, HF0.out]; exact Fam.two _ _ _ _), Below.refl _ _⟩
  case round =>
    obtain ⟨k, hk, rfl, FAM, hB⟩ := hrel
    have g5 : (k : Int) < (m : Int) + 1 ∨ ¬ (k : Int) < (m : Int) + 1 := by omega
    have j1 : ((m + 1 : Nat) : Int) - 1 = (m : Int) := by omega
    have j2 : ((m : Int) + 1) - 1 = (m : Int) := by omega
    by_cases hkn : k < m + 1
    · have hby : xs.getD k 0 < 256 := HP.out.lim.getD k
      have HCX : Hid (∀ U, Below u1.heap.size u1 U → ∃ xb xo, a = some ⟨xb, xo, none⟩ ∧ U.cell? ⟨xb, xo + k, none⟩ = some (.int .u8 ((xs.getD k 0 : Nat) : Int))) := fun U hU => by
        obtain ⟨xb, xo, e, _, c⟩ := HP.out.fm.at hU k (by rw [HXL.out]; exact hkn)
        exact ⟨xb, xo, e, c⟩
      have HSS := HFS.out k
      have HFK := HFL.out k
      have HGK := HAL.out k
      have HSA := HAS.out k
      generalize xs.getD k 0 = z at HCX hby HSS
      have HSF : Hid (F (k + 1) = F k ++ [(z : Int)]) := HSS
      have i1 : (0 : Int) ≤ (k : Int) := by omega
      have i2 : (k : Int) < (m : Int) + 1 := by omega
      have i2n : k < m + 1 := hkn
      have hzi : I64 (z : Int) := ⟨by omega, by omega⟩
      obtain ⟨xb, xo, rfl, -⟩ := HCX.out wr hB
      clear HSS g5
      by_cases hkm : k = m
      · have HSG : G (k + 1) = G k ++ [3] := by rw [HSA, HG3.out k hkm]
        have f1 : decide ((b : Int) < (k : Int)) = true := decide_eq_true (by omega)
        have f1n : decide (b < k) = true := decide_eq_true (by omega)
        have f2 : ((k : Int) == (m : Int)) = true := beq_iff_eq.2 (by omega)
        clear HSA hkm hkn hk
        obtain ⟨V1, hV1, c1, hbV1, hlV1⟩ : ∃ V, V = wr.alloc (.cells #[.int .i64 3] 3) ∧ V.cell? ⟨wr.heap.size, 0, none⟩ = some (.int .i64 3) ∧ Below wr.heap.size wr V ∧ wr.heap.size < V.heap.size := ⟨_, rfl, cell_of_row _ _ 0 _ _ (0, 0) (heap_alloc_new _ _), bl1 _, by simp⟩
        have famv1 := FAM.out.below hbV1
        have hown1 : Gw El.int 3 u1.heap.size (fun _ => False) V1 u9 (G k) := famv1.row 0 (by simp)
        have hbs1 : u1.heap.size ≤ V1.heap.size := Nat.le_trans hB.size hbV1.size
        have hBV1 : Below u1.heap.size u1 V1 := hB.trans (hbV1.mono hB.size)
        have hll1 : (G k).length + 1 ≤ 1000000 := by rw [HGK]; omega
        go_wp2_with (at_builtin; rw [← hV1]; refine wpList_append_gi rfl _ _ rfl u1.heap.size u9 (G k) rfl hown1 wr.heap.size 3 rfl hlV1 c1 ⟨by decide, by decide⟩ hll1 hbs1 ?_)
        intro v1 y1 hT1 hg1 ho1
        rw [← hV1] at hg1
        rw [show wr.heap.size + 1 = V1.heap.size by rw [hV1]; simp] at ho1
        have hB1 : Below u1.heap.size u1 y1 := hBV1.grown hg1 hbs1 (fun g hg => (hown1.lo hg).1)
        have fam1 : Fam El.int 3 u1.heap.size y1 [v1, u10] [(G k ++ [3]), F k] := famv1.grow 0 (by simp) hT1 hg1 ho1
        clear hV1 c1 hlV1 famv1 hbs1 hBV1 hT1 hll1 hown1 hg1 ho1 hbV1
        obtain ⟨xb2, xo2, ex, c0⟩ := HCX.out y1 hB1
        injection ex with ex
        injection ex with ex1 ex2
        subst ex1 ex2
        obtain ⟨V2, hV2, c2, hbV2, hlV2⟩ : ∃ V, V = y1.alloc (.cells #[.int .i64 (z : Int)] 3) ∧ V.cell? ⟨y1.heap.size, 0, none⟩ = some (.int .i64 (z : Int)) ∧ Below y1.heap.size y1 V ∧ y1.heap.size < V.heap.size := ⟨_, rfl, cell_of_row _ _ 0 _ _ (0, 0) (heap_alloc_new _ _), bl1 _, by simp⟩
        have famv2 := fam1.below hbV2
        have hown2 : Gw El.int 3 u1.heap.size (fun _ => False) V2 u10 (F k) := famv2.row 1 (by simp)
        have hbs2 : u1.heap.size ≤ V2.heap.size := Nat.le_trans hB1.size hbV2.size
        have hBV2 : Below u1.heap.size u1 V2 := hB1.trans (hbV2.mono hB1.size)
        have hll2 : (F k).length + 1 ≤ 1000000 := by rw [HFK]; omega
        go_wp2_with (at_builtin; rw [← hV2]; refine wpList_append_gi rfl _ _ rfl u1.heap.size u10 (F k) rfl hown2 y1.heap.size z rfl hlV2 c2 hzi hll2 hbs2 ?_)
        intro v2 y2 hT2 hg2 ho2
        rw [← hV2] at hg2
        rw [show y1.heap.size + 1 = V2.heap.size by rw [hV2]; simp] at ho2
        have hB2 : Below u1.heap.size u1 y2 := hBV2.grown hg2 hbs2 (fun g hg => (hown2.lo hg).1)
        have fam2 : Fam El.int 3 u1.heap.size y2 [v1, v2] [(G k ++ [3]), (F k ++ [(z : Int)])] := famv2.grow 1 (by simp) hT2 hg2 ho2
        have FAM2 : Hid (Fam El.int 3 u1.heap.size y2 [v1, v2] [G (k + 1), F (k + 1)]) := by show Fam _ _ _ _ _ _; rw [HSG, HSF.out]; exact fam2
        clear hV2 c2 hlV2 famv2 hbs2 hBV2 hT2 hll2 hown2 hg2 ho2 hbV2 fam1 fam2 hB1 hB c0 HSG FAM
        go_wp2
        go_roundw
        case rel => exact ⟨k + 1, by omega, by go_num, FAM2, hB2⟩
        case measure => simp [intOf]; omega
      by_cases hbk : b < k
      · have HSG : G (k + 1) = G k ++ [2] := by rw [HSA, HG2.out k hbk hkm]
        have f1 : decide ((b : Int) < (k : Int)) = true := decide_eq_true (by omega)
        have f1n : decide (b < k) = true := decide_eq_true hbk
        have f2 : ((k : Int) == (m : Int)) = false := beq_eq_false_iff_ne.2 (by omega)
        clear HSA hkm hkn hk hbk
        obtain ⟨V1, hV1, c1, hbV1, hlV1⟩ : ∃ V, V = wr.alloc (.cells #[.int .i64 2] 3) ∧ V.cell? ⟨wr.heap.size, 0, none⟩ = some (.int .i64 2) ∧ Below wr.heap.size wr V ∧ wr.heap.size < V.heap.size := ⟨_, rfl, cell_of_row _ _ 0 _ _ (0, 0) (heap_alloc_new _ _), bl1 _, by simp⟩
        have famv1 := FAM.out.below hbV1
        have hown1 : Gw El.int 3 u1.heap.size (fun _ => False) V1 u9 (G k) := famv1.row 0 (by simp)
        have hbs1 : u1.heap.size ≤ V1.heap.size := Nat.le_trans hB.size hbV1.size
        have hBV1 : Below u1.heap.size u1 V1 := hB.trans (hbV1.mono hB.size)
        have hll1 : (G k).length + 1 ≤ 1000000 := by rw [HGK]; omega
        go_wp2_with (at_builtin; rw [← hV1]; refine wpList_append_gi rfl _ _ rfl u1.heap.size u9 (G k) rfl hown1 wr.heap.size 2 rfl hlV1 c1 ⟨by decide, by decide⟩ hll1 hbs1 ?_)
        intro v1 y1 hT1 hg1 ho1
        rw [← hV1] at hg1
        rw [show wr.heap.size + 1 = V1.heap.size by rw [hV1]; simp] at ho1
        have hB1 : Below u1.heap.size u1 y1 := hBV1.grown hg1 hbs1 (fun g hg => (hown1.lo hg).1)
        have fam1 : Fam El.int 3 u1.heap.size y1 [v1, u10] [(G k ++ [2]), F k] := famv1.grow 0 (by simp) hT1 hg1 ho1
        clear hV1 c1 hlV1 famv1 hbs1 hBV1 hT1 hll1 hown1 hg1 ho1 hbV1
        obtain ⟨xb2, xo2, ex, c0⟩ := HCX.out y1 hB1
        injection ex with ex
        injection ex with ex1 ex2
        subst ex1 ex2
        obtain ⟨V2, hV2, c2, hbV2, hlV2⟩ : ∃ V, V = y1.alloc (.cells #[.int .i64 (z : Int)] 3) ∧ V.cell? ⟨y1.heap.size, 0, none⟩ = some (.int .i64 (z : Int)) ∧ Below y1.heap.size y1 V ∧ y1.heap.size < V.heap.size := ⟨_, rfl, cell_of_row _ _ 0 _ _ (0, 0) (heap_alloc_new _ _), bl1 _, by simp⟩
        have famv2 := fam1.below hbV2
        have hown2 : Gw El.int 3 u1.heap.size (fun _ => False) V2 u10 (F k) := famv2.row 1 (by simp)
        have hbs2 : u1.heap.size ≤ V2.heap.size := Nat.le_trans hB1.size hbV2.size
        have hBV2 : Below u1.heap.size u1 V2 := hB1.trans (hbV2.mono hB1.size)
        have hll2 : (F k).length + 1 ≤ 1000000 := by rw [HFK]; omega
        go_wp2_with (at_builtin; rw [← hV2]; refine wpList_append_gi rfl _ _ rfl u1.heap.size u10 (F k) rfl hown2 y1.heap.size z rfl hlV2 c2 hzi hll2 hbs2 ?_)
        intro v2 y2 hT2 hg2 ho2
        rw [← hV2] at hg2
        rw [show y1.heap.size + 1 = V2.heap.size by rw [hV2]; simp] at ho2
        have hB2 : Below u1.heap.size u1 y2 := hBV2.grown hg2 hbs2 (fun g hg => (hown2.lo hg).1)
        have fam2 : Fam El.int 3 u1.heap.size y2 [v1, v2] [(G k ++ [2]), (F k ++ [(z : Int)])] := famv2.grow 1 (by simp) hT2 hg2 ho2
        have FAM2 : Hid (Fam El.int 3 u1.heap.size y2 [v1, v2] [G (k + 1), F (k + 1)]) := by show Fam _ _ _ _ _ _; rw [HSG, HSF.out]; exact fam2
        clear hV2 c2 hlV2 famv2 hbs2 hBV2 hT2 hll2 hown2 hg2 ho2 hbV2 fam1 fam2 hB1 hB c0 HSG FAM
        go_wp2
        go_roundw
        case rel => exact ⟨k + 1, by omega, by go_num, FAM2, hB2⟩
        case measure => simp [intOf]; omega
      · have HSG : G (k + 1) = G k ++ [1] := by rw [HSA, HG1.out k hbk hkm]
        have f1 : decide ((b : Int) < (k : Int)) = false := decide_eq_false (by omega)
        have f1n : decide (b < k) = false := decide_eq_false hbk
        have f2 : ((k : Int) == (m : Int)) = false := beq_eq_false_iff_ne.2 (by omega)
        clear HSA hkm hkn hk hbk
        obtain ⟨V1, hV1, c1, hbV1, hlV1⟩ : ∃ V, V = wr.alloc (.cells #[.int .i64 1] 3) ∧ V.cell? ⟨wr.heap.size, 0, none⟩ = some (.int .i64 1) ∧ Below wr.heap.size wr V ∧ wr.heap.size < V.heap.size := ⟨_, rfl, cell_of_row _ _ 0 _ _ (0, 0) (heap_alloc_new _ _), bl1 _, by simp⟩
        have famv1 := FAM.out.below hbV1
        have hown1 : Gw El.int 3 u1.heap.size (fun _ => False) V1 u9 (G k) := famv1.row 0 (by simp)
        have hbs1 : u1.heap.size ≤ V1.heap.size := Nat.le_trans hB.size hbV1.size
        have hBV1 : Below u1.heap.size u1 V1 := hB.trans (hbV1.mono hB.size)
        have hll1 : (G k).length + 1 ≤ 1000000 := by rw [HGK]; omega
        go_wp2_with (at_builtin; rw [← hV1]; refine wpList_append_gi rfl _ _ rfl u1.heap.size u9 (G k) rfl hown1 wr.heap.size 1 rfl hlV1 c1 ⟨by decide, by decide⟩ hll1 hbs1 ?_)
        intro v1 y1 hT1 hg1 ho1
        rw [← hV1] at hg1
        rw [show wr.heap.size + 1 = V1.heap.size by rw [hV1]; simp] at ho1
        have hB1 : Below u1.heap.size u1 y1 := hBV1.grown hg1 hbs1 (fun g hg => (hown1.lo hg).1)
        have fam1 : Fam El.int 3 u1.heap.size y1 [v1, u10] [(G k ++ [1]), F k] := famv1.grow 0 (by simp) hT1 hg1 ho1
        clear hV1 c1 hlV1 famv1 hbs1 hBV1 hT1 hll1 hown1 hg1 ho1 hbV1
        obtain ⟨xb2, xo2, ex, c0⟩ := HCX.out y1 hB1
        injection ex with ex
        injection ex with ex1 ex2
        subst ex1 ex2
        obtain ⟨V2, hV2, c2, hbV2, hlV2⟩ : ∃ V, V = y1.alloc (.cells #[.int .i64 (z : Int)] 3) ∧ V.cell? ⟨y1.heap.size, 0, none⟩ = some (.int .i64 (z : Int)) ∧ Below y1.heap.size y1 V ∧ y1.heap.size < V.heap.size := ⟨_, rfl, cell_of_row _ _ 0 _ _ (0, 0) (heap_alloc_new _ _), bl1 _, by simp⟩
        have famv2 := fam1.below hbV2
        have hown2 : Gw El.int 3 u1.heap.size (fun _ => False) V2 u10 (F k) := famv2.row 1 (by simp)
        have hbs2 : u1.heap.size ≤ V2.heap.size := Nat.le_trans hB1.size hbV2.size
        have hBV2 : Below u1.heap.size u1 V2 := hB1.trans (hbV2.mono hB1.size)
        have hll2 : (F k).length + 1 ≤ 1000000 := by rw [HFK]; omega
        go_wp2_with (at_builtin; rw [← hV2]; refine wpList_append_gi rfl _ _ rfl u1.heap.size u10 (F k) rfl hown2 y1.heap.size z rfl hlV2 c2 hzi hll2 hbs2 ?_)
        intro v2 y2 hT2 hg2 ho2
        rw [← hV2] at hg2
        rw [show y1.heap.size + 1 = V2.heap.size by rw [hV2]; simp] at ho2
        have hB2 : Below u1.heap.size u1 y2 := hBV2.grown hg2 hbs2 (fun g hg => (hown2.lo hg).1)
        have fam2 : Fam El.int 3 u1.heap.size y2 [v1, v2] [(G k ++ [1]), (F k ++ [(z : Int)])] := famv2.grow 1 (by simp) hT2 hg2 ho2
        have FAM2 : Hid (Fam El.int 3 u1.heap.size y2 [v1, v2] [G (k + 1), F (k + 1)]) := by show Fam _ _ _ _ _ _; rw [HSG, HSF.out]; exact fam2
        clear hV2 c2 hlV2 famv2 hbs2 hBV2 hT2 hll2 hown2 hg2 ho2 hbV2 fam1 fam2 hB1 hB c0 HSG FAM
        go_wp2
        go_roundw
        case rel => exact ⟨k + 1, by omega, by go_num, FAM2, hB2⟩
        case measure => simp [intOf]; omega
    · obtain rfl : k = m + 1 := by omega
      have hra : Gi u1.heap.size wr u9 (G (m + 1)) := FAM.out.row 0 (by simp)
      have hrb : Gi u1.heap.size wr u10 (F (m + 1)) := FAM.out.row 1 (by simp)
      obtain ⟨la, lc, rfl, hli, -⟩ := hra.slice
      obtain ⟨wa, wk, rfl, hwi, -⟩ := hrb.slice
      have hgl := HAL.out (m + 1)
      have hwl := HFL.out (m + 1)
      have hwin := HFI.out
      rw [hgl, hwl]
      rw [HAE.out] at hli hgl
      generalize F (m + 1) = ws at hwi hwl hwin
      have g4 : ¬ (m : Int) + 1 < (m : Int) + 1 := by omega
      obtain ⟨Y, hY⟩ : ∃ Y, Y = wr := ⟨_, rfl⟩
      rw [← hY] at hB hli hwi ⊢
      clear hY hra hrb FAM HF0 HFS HFL HFI HA0 HAS HAL HAE HG1 HG2 HG3 HXL hk hkn g5
      replace BX := BX.below hB
      replace bel := bel.trans (hB.mono bel.size)
      clear hB
      go_upto_region 16 with fail
      go_cut [13] from 63 to 76 (fun v wx => ∃ g, v = .slice (some ⟨g, 0, none⟩) 1 1 ∧ Gr LkE (fun _ => True) wx (some ⟨g, 0, none⟩) 1 (anJ b0 b1) ∧ Below Y.heap.size Y wx)
      case first =>
        obtain ⟨t0, t1, -⟩ := BX.two
        have hw0 : IntKind.i64.wrap b0 = b0 := w6_id (by omega) (by omega)
        have hwY : w.heap.size < Y.heap.size := BX.lt
        have hw1 : IntKind.i64.wrap b1 = b1 := w6_id (by omega) (by omega)
        refine wp_region_held_drew (S := fun u => u.cell? ⟨w.heap.size, 0, none⟩ = some (.int .i8 b0) ∧ u.cell? ⟨w.heap.size, 1, none⟩ = some (.int .i8 b1)) (by kernel_rfl) ⟨t0, t1⟩ (fun hHeld => ?_)
        have hZ0 : Below Y.heap.size Y Y.drew := (Below.refl _ _).drew
        generalize Y.drew = Z0 at hZ0 hHeld ⊢
        clear BX t0 t1 bel hli hwi hgl hwl hwin
        refine hT 1 hHeld ?_
        refine hT 2 hHeld ?_
        refine hT 3 hHeld ?_
        refine hT 5 hHeld ?_
        refine hT 6 hHeld ?_
        refine hT 7 hHeld ?_
        refine wpAnyH_ready (rs := [0, 4]) (by kernel_rfl) (by simp) (hCons (i := 0) rfl (by rfl) (fun K hK => ?_) (hCons (i := 4) rfl (by rfl) (fun K hK => ?_) AllReadyH.nil))
        · go_simp
          obtain ⟨Z1, hZe, BI, hb⟩ : ∃ Z, Z = Z0.alloc (.cells #[.int .i64 1, .int .i64 3] 3) ∧ Bk 3 Z Z0.heap.size [.int .i64 1, .int .i64 3] ∧ Below Z0.heap.size Z0 Z := ⟨_, rfl, Bk.new _ _ _, bl1 _⟩
          have hZ1 := hZ0.trans (hb.mono hZ0.size)
          rw [← hZe]
          clear hZe
          refine hK.out _ _ ⟨(hb.cell (p := ⟨w.heap.size, 0, none⟩) (by show w.heap.size < _; have := hZ0.size; omega)).trans hHeld.1, (hb.cell (p := ⟨w.heap.size, 1, none⟩) (by show w.heap.size < _; have := hZ0.size; omega)).trans hHeld.2⟩ (fun hHeld => ?_)
          clear hK K hb
          try simp only [Act.put, List.setIfInBounds_toArray, List.set_cons_zero, List.set_cons_succ]
          obtain ⟨gi, hgi⟩ : ∃ g, Z0.heap.size = g := ⟨_, rfl⟩
          rw [hgi] at BI ⊢
          clear hgi
          refine hCall (i := 4) rfl (by kernel_rfl) (by rfl) (fun K hK => ?_)
          go_simp
          try rw [hw0]
          try rw [hw1]
          refine (flat21_any b0 Z1).mono ?_
          rintro e Z2 ⟨rfl, hb⟩
          have hZ2 := hZ1.trans (hb.mono hZ1.size)
          replace BI := BI.below hb
          go_wp2_with fail
          refine hK.out _ _ ⟨(hb.cell (p := ⟨w.heap.size, 0, none⟩) (by show w.heap.size < _; have := hZ1.size; omega)).trans hHeld.1, (hb.cell (p := ⟨w.heap.size, 1, none⟩) (by show w.heap.size < _; have := hZ1.size; omega)).trans hHeld.2⟩ (fun hHeld => ?_)
          clear hK K hb
          try simp only [Act.put, List.setIfInBounds_toArray, List.set_cons_zero, List.set_cons_succ]
          refine hCall (i := 8) rfl (by kernel_rfl) (by rfl) (fun K hK => ?_)
          go_simp
          try rw [hw0]
          try rw [hw1]
          refine (flat21_any b1 Z2).mono ?_
          rintro e Z3 ⟨rfl, hb⟩
          have hZ3 := hZ2.trans (hb.mono hZ2.size)
          replace BI := BI.below hb
          go_wp2_with fail
          refine hK.out _ _ ⟨(hb.cell (p := ⟨w.heap.size, 0, none⟩) (by show w.heap.size < _; have := hZ2.size; omega)).trans hHeld.1, (hb.cell (p := ⟨w.heap.size, 1, none⟩) (by show w.heap.size < _; have := hZ2.size; omega)).trans hHeld.2⟩ (fun hHeld => ?_)
          clear hK K hb
          try simp only [Act.put, List.setIfInBounds_toArray, List.set_cons_zero, List.set_cons_succ]
          refine hCall (i := 9) rfl (by kernel_rfl) (by rfl) (fun K hK => ?_)
          go_simp
          try rw [hw0]
          try rw [hw1]
          refine (flat21_any 0 Z3).mono ?_
          rintro e Z4 ⟨rfl, hb⟩
          have hZ4 := hZ3.trans (hb.mono hZ3.size)
          replace BI := BI.below hb
          go_wp2_with fail
          refine hK.out _ _ ⟨(hb.cell (p := ⟨w.heap.size, 0, none⟩) (by show w.heap.size < _; have := hZ3.size; omega)).trans hHeld.1, (hb.cell (p := ⟨w.heap.size, 1, none⟩) (by show w.heap.size < _; have := hZ3.size; omega)).trans hHeld.2⟩ (fun hHeld => ?_)
          clear hK K hb
          try simp only [Act.put, List.setIfInBounds_toArray, List.set_cons_zero, List.set_cons_succ]
          refine hT 10 hHeld ?_
          refine hCall (i := 11) rfl (by kernel_rfl) (by rfl) (fun K hK => ?_)
          go_simp
          obtain ⟨Z5, hZe, BR, hb⟩ : ∃ Z, Z = Z4.alloc (.cells #[.slice (some ⟨gi, 0, none⟩) 2 2, .slice none 0 0, .int .i64 0, .int .i64 0, .int .i64 b0, .int .i64 (-1), .int .i64 b1, .int .i64 (-1), .int .i64 0, .int .i64 (-1)] 52) ∧ Bk 52 Z Z4.heap.size [.slice (some ⟨gi, 0, none⟩) 2 2, .slice none 0 0, .int .i64 0, .int .i64 0, .int .i64 b0, .int .i64 (-1), .int .i64 b1, .int .i64 (-1), .int .i64 0, .int .i64 (-1)] ∧ Below Z4.heap.size Z4 Z := ⟨_, rfl, Bk.new _ _ _, bl1 _⟩
          have hZ5 := hZ4.trans (hb.mono hZ4.size)
          replace BI := BI.below hb
          rw [← hZe]
          clear hZe
          refine hK.out _ _ ⟨(hb.cell (p := ⟨w.heap.size, 0, none⟩) (by show w.heap.size < _; have := hZ4.size; omega)).trans hHeld.1, (hb.cell (p := ⟨w.heap.size, 1, none⟩) (by show w.heap.size < _; have := hZ4.size; omega)).trans hHeld.2⟩ (fun hHeld => ?_)
          clear hK K hb
          try simp only [Act.put, List.setIfInBounds_toArray, List.set_cons_zero, List.set_cons_succ]
          obtain ⟨gr, hgr⟩ : ∃ g, Z4.heap.size = g := ⟨_, rfl⟩
          rw [hgr] at BR ⊢
          clear hgr
          refine hT 12 hHeld ?_
          refine hCall (i := 13) rfl (by kernel_rfl) (by rfl) (fun K hK => ?_)
          go_simp
          obtain ⟨Z6, hZe, BL, hb⟩ : ∃ Z, Z = Z5.alloc (.cells #[.int .i64 7, .bool false, .slice (some ⟨gr, 0, none⟩) 1 1] 55) ∧ Bk 55 Z Z5.heap.size [.int .i64 7, .bool false, .slice (some ⟨gr, 0, none⟩) 1 1] ∧ Below Z5.heap.size Z5 Z := ⟨_, rfl, Bk.new _ _ _, bl1 _⟩
          have hZ6 := hZ5.trans (hb.mono hZ5.size)
          replace BI := BI.below hb
          replace BR := BR.below hb
          rw [← hZe]
          clear hZe
          refine hK.out _ _ ⟨(hb.cell (p := ⟨w.heap.size, 0, none⟩) (by show w.heap.size < _; have := hZ5.size; omega)).trans hHeld.1, (hb.cell (p := ⟨w.heap.size, 1, none⟩) (by show w.heap.size < _; have := hZ5.size; omega)).trans hHeld.2⟩ (fun hHeld => ?_)
          clear hK K hb
          try simp only [Act.put, List.setIfInBounds_toArray, List.set_cons_zero, List.set_cons_succ]
          refine hT 14 hHeld ?_
          refine wpAnyH_done (by kernel_rfl) ?_ _
          have r0 := grI_of_bk (zs := [1, 3]) BI (by intro z hz; simp at hz; rcases hz with rfl | rfl <;> exact ⟨by omega, by omega⟩) (by decide)
          have r1 : Gr RuE (fun _ => True) Z6 (some ⟨gr, 0, none⟩) 1 [ruJ [1, 3] b0 b1 0] := gr1_of_bk BR (ruJ_rep r0 (by decide) ⟨q1, by omega⟩ ⟨q3, by omega⟩ ⟨by decide, by decide⟩)
          have HLV : Hid (Gr LkE (fun _ => True) Z6 (some ⟨Z5.heap.size, 0, none⟩) 1 (anJ b0 b1)) := gr1_of_bk BL (lk0_rep r1 ⟨by omega, by omega⟩ (by simp))
          obtain ⟨gl, hgl⟩ : ∃ g, Z5.heap.size = g := ⟨_, rfl⟩
          rw [hgl] at HLV ⊢
          clear hgl r0 r1 BI BR BL hHeld
          go_wp2
          go_meet
          exact ⟨_, rfl, HLV.out, hZ6⟩
        · go_simp
          try rw [hw0]
          try rw [hw1]
          refine (flat21_any b0 Z0).mono ?_
          rintro e Z1 ⟨rfl, hb⟩
          have hZ1 := hZ0.trans (hb.mono hZ0.size)
          go_wp2_with fail
          refine hK.out _ _ ⟨(hb.cell (p := ⟨w.heap.size, 0, none⟩) (by show w.heap.size < _; have := hZ0.size; omega)).trans hHeld.1, (hb.cell (p := ⟨w.heap.size, 1, none⟩) (by show w.heap.size < _; have := hZ0.size; omega)).trans hHeld.2⟩ (fun hHeld => ?_)
          clear hK K hb
          try simp only [Act.put, List.setIfInBounds_toArray, List.set_cons_zero, List.set_cons_succ]
          refine wpAnyH_ready (rs := [0, 8]) (by kernel_rfl) (by simp) (hCons (i := 0) rfl (by rfl) (fun K hK => ?_) (hCons (i := 8) rfl (by rfl) (fun K hK => ?_) AllReadyH.nil))
          · go_simp
            obtain ⟨Z2, hZe, BI, hb⟩ : ∃ Z, Z = Z1.alloc (.cells #[.int .i64 1, .int .i64 3] 3) ∧ Bk 3 Z Z1.heap.size [.int .i64 1, .int .i64 3] ∧ Below Z1.heap.size Z1 Z := ⟨_, rfl, Bk.new _ _ _, bl1 _⟩
            have hZ2 := hZ1.trans (hb.mono hZ1.size)
            rw [← hZe]
            clear hZe
            refine hK.out _ _ ⟨(hb.cell (p := ⟨w.heap.size, 0, none⟩) (by show w.heap.size < _; have := hZ1.size; omega)).trans hHeld.1, (hb.cell (p := ⟨w.heap.size, 1, none⟩) (by show w.heap.size < _; have := hZ1.size; omega)).trans hHeld.2⟩ (fun hHeld => ?_)
            clear hK K hb
            try simp only [Act.put, List.setIfInBounds_toArray, List.set_cons_zero, List.set_cons_succ]
            obtain ⟨gi, hgi⟩ : ∃ g, Z1.heap.size = g := ⟨_, rfl⟩
            rw [hgi] at BI ⊢
            clear hgi
            refine hCall (i := 8) rfl (by kernel_rfl) (by rfl) (fun K hK => ?_)
            go_simp
            try rw [hw0]
            try rw [hw1]
            refine (flat21_any b1 Z2).mono ?_
            rintro e Z3 ⟨rfl, hb⟩
            have hZ3 := hZ2.trans (hb.mono hZ2.size)
            replace BI := BI.below hb
            go_wp2_with fail
            refine hK.out _ _ ⟨(hb.cell (p := ⟨w.heap.size, 0, none⟩) (by show w.heap.size < _; have := hZ2.size; omega)).trans hHeld.1, (hb.cell (p := ⟨w.heap.size, 1, none⟩) (by show w.heap.size < _; have := hZ2.size; omega)).trans hHeld.2⟩ (fun hHeld => ?_)
            clear hK K hb
            try simp only [Act.put, List.setIfInBounds_toArray, List.set_cons_zero, List.set_cons_succ]
            refine hCall (i := 9) rfl (by kernel_rfl) (by rfl) (fun K hK => ?_)
            go_simp
            try rw [hw0]
            try rw [hw1]
            refine (flat21_any 0 Z3).mono ?_
            rintro e Z4 ⟨rfl, hb⟩
            have hZ4 := hZ3.trans (hb.mono hZ3.size)
            replace BI := BI.below hb
            go_wp2_with fail
            refine hK.out _ _ ⟨(hb.cell (p := ⟨w.heap.size, 0, none⟩) (by show w.heap.size < _; have := hZ3.size; omega)).trans hHeld.1, (hb.cell (p := ⟨w.heap.size, 1, none⟩) (by show w.heap.size < _; have := hZ3.size; omega)).trans hHeld.2⟩ (fun hHeld => ?_)
            clear hK K hb
            try simp only [Act.put, List.setIfInBounds_toArray, List.set_cons_zero, List.set_cons_succ]
            refine hT 10 hHeld ?_
            refine hCall (i := 11) rfl (by kernel_rfl) (by rfl) (fun K hK => ?_)
            go_simp
            obtain ⟨Z5, hZe, BR, hb⟩ : ∃ Z, Z = Z4.alloc (.cells #[.slice (some ⟨gi, 0, none⟩) 2 2, .slice none 0 0, .int .i64 0, .int .i64 0, .int .i64 b0, .int .i64 (-1), .int .i64 b1, .int .i64 (-1), .int .i64 0, .int .i64 (-1)] 52) ∧ Bk 52 Z Z4.heap.size [.slice (some ⟨gi, 0, none⟩) 2 2, .slice none 0 0, .int .i64 0, .int .i64 0, .int .i64 b0, .int .i64 (-1), .int .i64 b1, .int .i64 (-1), .int .i64 0, .int .i64 (-1)] ∧ Below Z4.heap.size Z4 Z := ⟨_, rfl, Bk.new _ _ _, bl1 _⟩
            have hZ5 := hZ4.trans (hb.mono hZ4.size)
            replace BI := BI.below hb
            rw [← hZe]
            clear hZe
            refine hK.out _ _ ⟨(hb.cell (p := ⟨w.heap.size, 0, none⟩) (by show w.heap.size < _; have := hZ4.size; omega)).trans hHeld.1, (hb.cell (p := ⟨w.heap.size, 1, none⟩) (by show w.heap.size < _; have := hZ4.size; omega)).trans hHeld.2⟩ (fun hHeld => ?_)
            clear hK K hb
            try simp only [Act.put, List.setIfInBounds_toArray, List.set_cons_zero, List.set_cons_succ]
            obtain ⟨gr, hgr⟩ : ∃ g, Z4.heap.size = g := ⟨_, rfl⟩
            rw [hgr] at BR ⊢
            clear hgr
            refine hT 12 hHeld ?_
            refine hCall (i := 13) rfl (by kernel_rfl) (by rfl) (fun K hK => ?_)
            go_simp
            obtain ⟨Z6, hZe, BL, hb⟩ : ∃ Z, Z = Z5.alloc (.cells #[.int .i64 7, .bool false, .slice (some ⟨gr, 0, none⟩) 1 1] 55) ∧ Bk 55 Z Z5.heap.size [.int .i64 7, .bool false, .slice (some ⟨gr, 0, none⟩) 1 1] ∧ Below Z5.heap.size Z5 Z := ⟨_, rfl, Bk.new _ _ _, bl1 _⟩
            have hZ6 := hZ5.trans (hb.mono hZ5.size)
            replace BI := BI.below hb
            replace BR := BR.below hb
            rw [← hZe]
            clear hZe
            refine hK.out _ _ ⟨(hb.cell (p := ⟨w.heap.size, 0, none⟩) (by show w.heap.size < _; have := hZ5.size; omega)).trans hHeld.1, (hb.cell (p := ⟨w.heap.size, 1, none⟩) (by show w.heap.size < _; have := hZ5.size; omega)).trans hHeld.2⟩ (fun hHeld => ?_)
            clear hK K hb
            try simp only [Act.put, List.setIfInBounds_toArray, List.set_cons_zero, List.set_cons_succ]
            refine hT 14 hHeld ?_
            refine wpAnyH_done (by kernel_rfl) ?_ _
            have r0 := grI_of_bk (zs := [1, 3]) BI (by intro z hz; simp at hz; rcases hz with rfl | rfl <;> exact ⟨by omega, by omega⟩) (by decide)
            have r1 : Gr RuE (fun _ => True) Z6 (some ⟨gr, 0, none⟩) 1 [ruJ [1, 3] b0 b1 0] := gr1_of_bk BR (ruJ_rep r0 (by decide) ⟨q1, by omega⟩ ⟨q3, by omega⟩ ⟨by decide, by decide⟩)
            have HLV : Hid (Gr LkE (fun _ => True) Z6 (some ⟨Z5.heap.size, 0, none⟩) 1 (anJ b0 b1)) := gr1_of_bk BL (lk0_rep r1 ⟨by omega, by omega⟩ (by simp))
            obtain ⟨gl, hgl⟩ : ∃ g, Z5.heap.size = g := ⟨_, rfl⟩
            rw [hgl] at HLV ⊢
            clear hgl r0 r1 BI BR BL hHeld
            go_wp2
            go_meet
            exact ⟨_, rfl, HLV.out, hZ6⟩
          · go_simp
            try rw [hw0]
            try rw [hw1]
            refine (flat21_any b1 Z1).mono ?_
            rintro e Z2 ⟨rfl, hb⟩
            have hZ2 := hZ1.trans (hb.mono hZ1.size)
            go_wp2_with fail
            refine hK.out _ _ ⟨(hb.cell (p := ⟨w.heap.size, 0, none⟩) (by show w.heap.size < _; have := hZ1.size; omega)).trans hHeld.1, (hb.cell (p := ⟨w.heap.size, 1, none⟩) (by show w.heap.size < _; have := hZ1.size; omega)).trans hHeld.2⟩ (fun hHeld => ?_)
            clear hK K hb
            try simp only [Act.put, List.setIfInBounds_toArray, List.set_cons_zero, List.set_cons_succ]
            refine wpAnyH_ready (rs := [0, 9]) (by kernel_rfl) (by simp) (hCons (i := 0) rfl (by rfl) (fun K hK => ?_) (hCons (i := 9) rfl (by rfl) (fun K hK => ?_) AllReadyH.nil))
            · go_simp
              obtain ⟨Z3, hZe, BI, hb⟩ : ∃ Z, Z = Z2.alloc (.cells #[.int .i64 1, .int .i64 3] 3) ∧ Bk 3 Z Z2.heap.size [.int .i64 1, .int .i64 3] ∧ Below Z2.heap.size Z2 Z := ⟨_, rfl, Bk.new _ _ _, bl1 _⟩
              have hZ3 := hZ2.trans (hb.mono hZ2.size)
              rw [← hZe]
              clear hZe
              refine hK.out _ _ ⟨(hb.cell (p := ⟨w.heap.size, 0, none⟩) (by show w.heap.size < _; have := hZ2.size; omega)).trans hHeld.1, (hb.cell (p := ⟨w.heap.size, 1, none⟩) (by show w.heap.size < _; have := hZ2.size; omega)).trans hHeld.2⟩ (fun hHeld => ?_)
              clear hK K hb
              try simp only [Act.put, List.setIfInBounds_toArray, List.set_cons_zero, List.set_cons_succ]
              obtain ⟨gi, hgi⟩ : ∃ g, Z2.heap.size = g := ⟨_, rfl⟩
              rw [hgi] at BI ⊢
              clear hgi
              refine hCall (i := 9) rfl (by kernel_rfl) (by rfl) (fun K hK => ?_)
              go_simp
              try rw [hw0]
              try rw [hw1]
              refine (flat21_any 0 Z3).mono ?_
              rintro e Z4 ⟨rfl, hb⟩
              have hZ4 := hZ3.trans (hb.mono hZ3.size)
              replace BI := BI.below hb
              go_wp2_with fail
              refine hK.out _ _ ⟨(hb.cell (p := ⟨w.heap.size, 0, none⟩) (by show w.heap.size < _; have := hZ3.size; omega)).trans hHeld.1, (hb.cell (p := ⟨w.heap.size, 1, none⟩) (by show w.heap.size < _; have := hZ3.size; omega)).trans hHeld.2⟩ (fun hHeld => ?_)
              clear hK K hb
              try simp only [Act.put, List.setIfInBounds_toArray, List.set_cons_zero, List.set_cons_succ]
              refine hT 10 hHeld ?_
              refine hCall (i := 11) rfl (by kernel_rfl) (by rfl) (fun K hK => ?_)
              go_simp
              obtain ⟨Z5, hZe, BR, hb⟩ : ∃ Z, Z = Z4.alloc (.cells #[.slice (some ⟨gi, 0, none⟩) 2 2, .slice none 0 0, .int .i64 0, .int .i64 0, .int .i64 b0, .int .i64 (-1), .int .i64 b1, .int .i64 (-1), .int .i64 0, .int .i64 (-1)] 52) ∧ Bk 52 Z Z4.heap.size [.slice (some ⟨gi, 0, none⟩) 2 2, .slice none 0 0, .int .i64 0, .int .i64 0, .int .i64 b0, .int .i64 (-1), .int .i64 b1, .int .i64 (-1), .int .i64 0, .int .i64 (-1)] ∧ Below Z4.heap.size Z4 Z := ⟨_, rfl, Bk.new _ _ _, bl1 _⟩
              have hZ5 := hZ4.trans (hb.mono hZ4.size)
              replace BI := BI.below hb
              rw [← hZe]
              clear hZe
              refine hK.out _ _ ⟨(hb.cell (p := ⟨w.heap.size, 0, none⟩) (by show w.heap.size < _; have := hZ4.size; omega)).trans hHeld.1, (hb.cell (p := ⟨w.heap.size, 1, none⟩) (by show w.heap.size < _; have := hZ4.size; omega)).trans hHeld.2⟩ (fun hHeld => ?_)
              clear hK K hb
              try simp only [Act.put, List.setIfInBounds_toArray, List.set_cons_zero, List.set_cons_succ]
              obtain ⟨gr, hgr⟩ : ∃ g, Z4.heap.size = g := ⟨_, rfl⟩
              rw [hgr] at BR ⊢
              clear hgr
              refine hT 12 hHeld ?_
              refine hCall (i := 13) rfl (by kernel_rfl) (by rfl) (fun K hK => ?_)
              go_simp
              obtain ⟨Z6, hZe, BL, hb⟩ : ∃ Z, Z = Z5.alloc (.cells #[.int .i64 7, .bool false, .slice (some ⟨gr, 0, none⟩) 1 1] 55) ∧ Bk 55 Z Z5.heap.size [.int .i64 7, .bool false, .slice (some ⟨gr, 0, none⟩) 1 1] ∧ Below Z5.heap.size Z5 Z := ⟨_, rfl, Bk.new _ _ _, bl1 _⟩
              have hZ6 := hZ5.trans (hb.mono hZ5.size)
              replace BI := BI.below hb
              replace BR := BR.below hb
              rw [← hZe]
              clear hZe
              refine hK.out _ _ ⟨(hb.cell (p := ⟨w.heap.size, 0, none⟩) (by show w.heap.size < _; have := hZ5.size; omega)).trans hHeld.1, (hb.cell (p := ⟨w.heap.size, 1, none⟩) (by show w.heap.size < _; have := hZ5.size; omega)).trans hHeld.2⟩ (fun hHeld => ?_)
              clear hK K hb
              try simp only [Act.put, List.setIfInBounds_toArray, List.set_cons_zero, List.set_cons_succ]
              refine hT 14 hHeld ?_
              refine wpAnyH_done (by kernel_rfl) ?_ _
              have r0 := grI_of_bk (zs := [1, 3]) BI (by intro z hz; simp at hz; rcases hz with rfl | rfl <;> exact ⟨by omega, by omega⟩) (by decide)
              have r1 : Gr RuE (fun _ => True) Z6 (some ⟨gr, 0, none⟩) 1 [ruJ [1, 3] b0 b1 0] := gr1_of_bk BR (ruJ_rep r0 (by decide) ⟨q1, by omega⟩ ⟨q3, by omega⟩ ⟨by decide, by decide⟩)
              have HLV : Hid (Gr LkE (fun _ => True) Z6 (some ⟨Z5.heap.size, 0, none⟩) 1 (anJ b0 b1)) := gr1_of_bk BL (lk0_rep r1 ⟨by omega, by omega⟩ (by simp))
              obtain ⟨gl, hgl⟩ : ∃ g, Z5.heap.size = g := ⟨_, rfl⟩
              rw [hgl] at HLV ⊢
              clear hgl r0 r1 BI BR BL hHeld
              go_wp2
              go_meet
              exact ⟨_, rfl, HLV.out, hZ6⟩
            · go_simp
              try rw [hw0]
              try rw [hw1]
              refine (flat21_any 0 Z2).mono ?_
              rintro e Z3 ⟨rfl, hb⟩
              have hZ3 := hZ2.trans (hb.mono hZ2.size)
              go_wp2_with fail
              refine hK.out _ _ ⟨(hb.cell (p := ⟨w.heap.size, 0, none⟩) (by show w.heap.size < _; have := hZ2.size; omega)).trans hHeld.1, (hb.cell (p := ⟨w.heap.size, 1, none⟩) (by show w.heap.size < _; have := hZ2.size; omega)).trans hHeld.2⟩ (fun hHeld => ?_)
              clear hK K hb
              try simp only [Act.put, List.setIfInBounds_toArray, List.set_cons_zero, List.set_cons_succ]
              refine hCall (i := 0) rfl (by kernel_rfl) (by rfl) (fun K hK => ?_)
              go_simp
              obtain ⟨Z4, hZe, BI, hb⟩ : ∃ Z, Z = Z3.alloc (.cells #[.int .i64 1, .int .i64 3] 3) ∧ Bk 3 Z Z3.heap.size [.int .i64 1, .int .i64 3] ∧ Below Z3.heap.size Z3 Z := ⟨_, rfl, Bk.new _ _ _, bl1 _⟩
              have hZ4 := hZ3.trans (hb.mono hZ3.size)
              rw [← hZe]
              clear hZe
              refine hK.out _ _ ⟨(hb.cell (p := ⟨w.heap.size, 0, none⟩) (by show w.heap.size < _; have := hZ3.size; omega)).trans hHeld.1, (hb.cell (p := ⟨w.heap.size, 1, none⟩) (by show w.heap.size < _; have := hZ3.size; omega)).trans hHeld.2⟩ (fun hHeld => ?_)
              clear hK K hb
              try simp only [Act.put, List.setIfInBounds_toArray, List.set_cons_zero, List.set_cons_succ]
              obtain ⟨gi, hgi⟩ : ∃ g, Z3.heap.size = g := ⟨_, rfl⟩
              rw [hgi] at BI ⊢
              clear hgi
              refine hT 10 hHeld ?_
              refine hCall (i := 11) rfl (by kernel_rfl) (by rfl) (fun K hK => ?_)
              go_simp
              obtain ⟨Z5, hZe, BR, hb⟩ : ∃ Z, Z = Z4.alloc (.cells #[.slice (some ⟨gi, 0, none⟩) 2 2, .slice none 0 0, .int .i64 0, .int .i64 0, .int .i64 b0, .int .i64 (-1), .int .i64 b1, .int .i64 (-1), .int .i64 0, .int .i64 (-1)] 52) ∧ Bk 52 Z Z4.heap.size [.slice (some ⟨gi, 0, none⟩) 2 2, .slice none 0 0, .int .i64 0, .int .i64 0, .int .i64 b0, .int .i64 (-1), .int .i64 b1, .int .i64 (-1), .int .i64 0, .int .i64 (-1)] ∧ Below Z4.heap.size Z4 Z := ⟨_, rfl, Bk.new _ _ _, bl1 _⟩
              have hZ5 := hZ4.trans (hb.mono hZ4.size)
              replace BI := BI.below hb
              rw [← hZe]
              clear hZe
              refine hK.out _ _ ⟨(hb.cell (p := ⟨w.heap.size, 0, none⟩) (by show w.heap.size < _; have := hZ4.size; omega)).trans hHeld.1, (hb.cell (p := ⟨w.heap.size, 1, none⟩) (by show w.heap.size < _; have := hZ4.size; omega)).trans hHeld.2⟩ (fun hHeld => ?_)
              clear hK K hb
              try simp only [Act.put, List.setIfInBounds_toArray, List.set_cons_zero, List.set_cons_succ]
              obtain ⟨gr, hgr⟩ : ∃ g, Z4.heap.size = g := ⟨_, rfl⟩
              rw [hgr] at BR ⊢
              clear hgr
              refine hT 12 hHeld ?_
              refine hCall (i := 13) rfl (by kernel_rfl) (by rfl) (fun K hK => ?_)
              go_simp
              obtain ⟨Z6, hZe, BL, hb⟩ : ∃ Z, Z = Z5.alloc (.cells #[.int .i64 7, .bool false, .slice (some ⟨gr, 0, none⟩) 1 1] 55) ∧ Bk 55 Z Z5.heap.size [.int .i64 7, .bool false, .slice (some ⟨gr, 0, none⟩) 1 1] ∧ Below Z5.heap.size Z5 Z := ⟨_, rfl, Bk.new _ _ _, bl1 _⟩
              have hZ6 := hZ5.trans (hb.mono hZ5.size)
              replace BI := BI.below hb
              replace BR := BR.below hb
              rw [← hZe]
              clear hZe
              refine hK.out _ _ ⟨(hb.cell (p := ⟨w.heap.size, 0, none⟩) (by show w.heap.size < _; have := hZ5.size; omega)).trans hHeld.1, (hb.cell (p := ⟨w.heap.size, 1, none⟩) (by show w.heap.size < _; have := hZ5.size; omega)).trans hHeld.2⟩ (fun hHeld => ?_)
              clear hK K hb
              try simp only [Act.put, List.setIfInBounds_toArray, List.set_cons_zero, List.set_cons_succ]
              refine hT 14 hHeld ?_
              refine wpAnyH_done (by kernel_rfl) ?_ _
              have r0 := grI_of_bk (zs := [1, 3]) BI (by intro z hz; simp at hz; rcases hz with rfl | rfl <;> exact ⟨by omega, by omega⟩) (by decide)
              have r1 : Gr RuE (fun _ => True) Z6 (some ⟨gr, 0, none⟩) 1 [ruJ [1, 3] b0 b1 0] := gr1_of_bk BR (ruJ_rep r0 (by decide) ⟨q1, by omega⟩ ⟨q3, by omega⟩ ⟨by decide, by decide⟩)
              have HLV : Hid (Gr LkE (fun _ => True) Z6 (some ⟨Z5.heap.size, 0, none⟩) 1 (anJ b0 b1)) := gr1_of_bk BL (lk0_rep r1 ⟨by omega, by omega⟩ (by simp))
              obtain ⟨gl, hgl⟩ : ∃ g, Z5.heap.size = g := ⟨_, rfl⟩
              rw [hgl] at HLV ⊢
              clear hgl r0 r1 BI BR BL hHeld
              go_wp2
              go_meet
              exact ⟨_, rfl, HLV.out, hZ6⟩
      case rest =>
        obtain ⟨gl, rfl, hLK, hBc⟩ := hcut
        replace BX := BX.below hBc
        replace hli := hli.below hBc
        replace hwi := hwi.below hBc
        replace bel := bel.trans (hBc.mono bel.size)
        clear hBc
        obtain ⟨V1, hV1, BZ, hb⟩ : ∃ V, V = wc.alloc (.cells #[.int .i64 0] 3) ∧ Bk 3 V wc.heap.size [.int .i64 0] ∧ Below wc.heap.size wc V := ⟨_, rfl, Bk.new _ _ _, bl1 _⟩
        replace BX := BX.below hb
        replace hli := hli.below hb
        replace hwi := hwi.below hb
        replace hLK := hLK.below hb
        replace bel := bel.trans (hb.mono bel.size)
        clear hb
        have sV1 : V1.heap.size = wc.heap.size + 1 := by rw [hV1]; simp
        obtain ⟨V2, hV2, BM, hb⟩ : ∃ V, V = V1.alloc (.cells #[.bool false, .bool false, .bool true, .bool true] 4) ∧ Bk 4 V V1.heap.size [.bool false, .bool false, .bool true, .bool true] ∧ Below V1.heap.size V1 V := ⟨_, rfl, Bk.new _ _ _, bl1 _⟩
        replace BX := BX.below hb
        replace hli := hli.below hb
        replace hwi := hwi.below hb
        replace hLK := hLK.below hb
        replace BZ := BZ.below hb
        replace bel := bel.trans (hb.mono bel.size)
        clear hb
        rw [sV1] at BM
        clear sV1
        have rz := grI_of_bk (zs := [0]) BZ (by intro z hz; simp at hz; subst hz; exact ⟨by omega, by omega⟩) (by decide)
        have hks : Ri V2 (some ⟨wc.heap.size, 0, none⟩) 1 [0] := rz.ri
        have hms : Gr El.bool (fun _ => True) V2 (some ⟨wc.heap.size + 1, 0, none⟩) 4 [false, false, true, true] := gr_of_bk (l := [false, false, true, true]) [[.bool false], [.bool false], [.bool true], [.bool true]] BM rfl rfl (fun i hi => by
          have h4 : i = 0 ∨ i = 1 ∨ i = 2 ∨ i = 3 := by simp at hi; omega
          rcases h4 with rfl | rfl | rfl | rfl <;> rfl) (by decide)
        have hla : Calls Try.prog 9 #[.slice la (m + 1) lc, .slice wa (m + 1) wk] V2 fun e w' => RowP (laL (anL (m + 1) b) ws) V2.heap.size w' e ∧ Below V2.heap.size V2 w' := by
          have := clay_any la lc (anL (m + 1) b) wa wk ws V2 hli hwi (by omega)
          rw [hgl, hwl] at this
          exact this
        clear rz BZ BM
        go_wp2_with fail
        rw [← hV1]
        rw [← hV2]
        clear hV1 hV2
        refine hla.mono ?_
        rintro e u7 ⟨⟨v, rfl, hv⟩, hb⟩
        obtain ⟨qa, qc, rfl, hq, -⟩ := hv.slice
        have hpl : (laL (anL (m + 1) b) ws).length = m + 1 := by rw [laL_len]; exact hgl
        rw [hpl]
        replace BX := BX.below hb
        replace hli := hli.below hb
        replace hwi := hwi.below hb
        replace hLK := hLK.below hb
        replace hks := hks.below hb
        replace hms := hms.below hb
        replace bel := bel.trans (hb.mono bel.size)
        clear hla hv hb
        obtain ⟨R, hR⟩ : ∃ R, (laL (anL (m + 1) b) ws).set m ⟨3, b0 - suW ws b (m - b), b1, ws.getD m 0⟩ = R := ⟨_, rfl⟩
        have HRL : Hid (R.length = m + 1) := by show _ = _; rw [← hR, List.length_set]; exact hpl
        have HRM : Hid (R.getD m Pd.none = ⟨3, b0 - suW ws b (m - b), b1, ws.getD m 0⟩) := by show _ = _; rw [← hR]; exact get_set4 (by omega) _
        have hal : Calls Try.prog 12 #[.slice (some ⟨gl, 0, none⟩) 1 1, .slice (some ⟨wc.heap.size, 0, none⟩) 1 1, .agg #[.slice none 0 0, .slice none 0 0, .slice (some ⟨wc.heap.size + 1, 0, none⟩) 4 4, .slice none 0 0], .slice qa (m + 1) qc] u7 fun e w' => PaA (0, R) u7.heap.size w' e ∧ Below u7.heap.size u7 w' := by
          have := callP_any (fun _ => True) (fun _ => True) (fun _ => False) (some ⟨gl, 0, none⟩) 1 (anJ b0 b1) (some ⟨wc.heap.size, 0, none⟩) 1 [0] none 0 none 0 sJ (some ⟨wc.heap.size + 1, 0, none⟩) 4 [false, false, true, true] none 0 [] qa qc (laL (anL (m + 1) b) ws) u7 hLK hks (sJ_tz u7) (sJ_ri u7) hms (Ri.nil _ _ _ (Nat.zero_le _)) (by decide) (fun l hl => by simp [sJ] at hl) hq (by omega)
          rw [an_line (fun z h1 h2 => sJ_fi z h1 h2) (fun z h1 h2 => sJ_ro [] z h1 h2) ⟨q1, by omega⟩ ⟨q3, by omega⟩ hbm (by omega) hwin hwl, hpl, hR] at this
          exact this
        clear hR hpl hgl hq hLK hks hms
        go_wp2_with fail
        refine hal.mono ?_
        rintro e u8 ⟨⟨v, rfl, hv⟩, hb⟩
        dsimp only at hv ⊢
        obtain ⟨oa, oc, rfl, ho, -⟩ := hv.slice
        rw [HRL.out]
        replace BX := BX.below hb
        replace hwi := hwi.below hb
        replace bel := bel.trans (hb.mono bel.size)
        clear hal hv hb hli
        obtain ⟨hs1, hs2⟩ := suW_le hwin b (m - b)
        have hws : ∀ i, i ≤ m → 0 ≤ ws.getD i 0 ∧ ws.getD i 0 ≤ 255 := fun i hi => by
          rw [List.getD_eq_getElem?_getD, List.getElem?_eq_getElem (by omega)]
          exact hwin _ (List.getElem_mem _)
        have HSP : Hid (suW ws 0 m = suW ws 0 b + suW ws b (m - b)) := by
          show _ = _
          have := suW_split ws b (m - b)
          rw [show b + (m - b) = m by omega] at this
          exact this
        have HSU : Hid (∀ i, 0 ≤ suW ws 0 i ∧ suW ws 0 i ≤ 255 * (i : Int)) := suW_le hwin 0
        have HSS : Hid (∀ i, suW ws 0 (i + 1) = suW ws 0 i + ws.getD i 0) := fun i => by show suW ws 0 i + ws.getD (0 + i) 0 = _; rw [Nat.zero_add]
        obtain ⟨X, hX⟩ : ∃ X, b0 - suW ws b (m - b) = X := ⟨_, rfl⟩
        have HXE : Hid (X + suW ws b (m - b) = b0) := by show _ = _; omega
        have hx1 : -12000 ≤ X := by omega
        have hx2 : X ≤ 12000 := by omega
        rw [hX] at HRM
        have HF : Hid (Bk 47 u8 w.heap.size [.int .i8 b0, .int .i8 b1] ∧ Ri u8 wa wk ws ∧ Gr PdE (fun _ => False) u8 oa oc R) := ⟨BX, hwi, ho⟩
        have HWS : Hid (∀ i, i ≤ m → 0 ≤ ws.getD i 0 ∧ ws.getD i 0 ≤ 255) := hws
        have HM : Hid (m < 40 ∧ ws.length = m + 1) := ⟨by omega, hwl⟩
        obtain ⟨ob, oo, rfl, -, -, o0, o1, o2, o3⟩ := ho.pd (Below.refl _ _) m (by rw [HRL.out]; omega)
        rw [HRM.out] at o0 o1 o2 o3
        dsimp only at o0 o1 o2 o3
        have j3 : (m : Int) < (m : Int) + 1 := by omega
        have j4 : (0 : Int) ≤ (m : Int) := by omega
        have j5 : ((m : Int) + 1 != (m : Int) + 1) = false := by simp
        clear BX hwi ho hX hws hs1 hs2 hwl hwin n0 n1 g4
        go_wp2_with fail
        go_quiet (fail)
        obtain ⟨U9, hU9⟩ : ∃ U, U = u8.drewN nq := ⟨_, rfl⟩
        have hb9 : Below u8.heap.size u8 U9 := by rw [hU9]; exact below_drewN (Below.refl _ _) _
        rw [← hU9]
        clear hU9 o0 o1 o2 o3
        go_wp2
        go_loopw [16, 17, 18] (fun vf vt vi wr => ∃ i : Nat, i ≤ m ∧ vi = .int .i64 i ∧ vf = .int .i64 (suW ws 0 (min i b)) ∧ vt = .int .i64 (X + suW ws 0 i) ∧ Below u8.heap.size u8 wr) (fun _ _ vi _ => m - (intOf vi).toNat)
        case atStart => exact ⟨0, Nat.zero_le _, rfl, (by rw [Nat.zero_min]; rfl), (by show _ = Value.int .i64 (X + 0); rw [Int.add_zero]), hb9⟩
        case round =>
          rename World => wr
          obtain ⟨i, him, rfl, rfl, rfl, hB⟩ := hrel
          have hs3 := HSU.out i
          have hm40 := HM.out.1
          by_cases hin : i < m
          · have i1 : (0 : Int) ≤ (i : Int) := by omega
            have i2 : (i : Int) < (m : Int) := by omega
            have i3 : (i : Int) < (m : Int) + 1 := by omega
            obtain ⟨wb, wo, rfl, -, c0⟩ := HF.out.2.1.at hB i (by rw [HM.out.2]; omega)
            obtain ⟨hz1, hz2⟩ := HWS.out i (by omega)
            have hss := HSS.out i
            have hsb := HSU.out b
            by_cases hib : i < b
            · have f1 : decide ((i : Int) < (b : Int)) = true := decide_eq_true (by omega)
              have f1n : decide (i < b) = true := decide_eq_true hib
              have e1 : min i b = i := by omega
              have e2 : min (i + 1) b = i + 1 := by omega
              rw [e1]
              generalize ws.getD i 0 = z at *
              generalize suW ws 0 i = S at *
              have HN : Hid (suW ws 0 (i + 1) = S + z) := hss
              have HE2 : Hid (min (i + 1) b = i + 1) := e2
              clear hss e1 e2 hib
              go_wp2
              go_roundw
              case rel => exact ⟨i + 1, by omega, by go_num, (by rw [HE2.out, HN.out]), (by rw [HN.out, Int.add_assoc]), hB⟩
              case measure => simp [intOf]; omega
            · have f1 : decide ((i : Int) < (b : Int)) = false := decide_eq_false (by omega)
              have f1n : decide (i < b) = false := decide_eq_false hib
              have e1 : min i b = b := by omega
              have e2 : min (i + 1) b = b := by omega
              rw [e1]
              generalize ws.getD i 0 = z at *
              generalize suW ws 0 i = S at *
              have HN : Hid (suW ws 0 (i + 1) = S + z) := hss
              have HE2 : Hid (min (i + 1) b = b) := e2
              clear hss e1 e2 hib
              go_wp2
              go_roundw
              case rel => exact ⟨i + 1, by omega, by go_num, (by rw [HE2.out]), (by rw [HN.out, Int.add_assoc]), hB⟩
              case measure => simp [intOf]; omega
          · obtain rfl : i = m := by omega
            have e1 : min i b = b := by omega
            rw [e1]
            have hsb := HSU.out b
            have hTF : X + suW ws 0 i - suW ws 0 b = b0 := by have h1 := HSP.out; have h2 := HXE.out; omega
            have hfin := bel.trans (hB.mono bel.size)
            obtain ⟨t0, t1, -⟩ := (HF.out.1.below hB).two
            obtain ⟨wb, wo, rfl, -, c0⟩ := HF.out.2.1.at hB i (by rw [HM.out.2]; omega)
            obtain ⟨ob2, oo2, eo, -, -, o0, o1, o2, o3⟩ := HF.out.2.2.pd hB i (by rw [HRL.out]; omega)
            injection eo with eo
            injection eo with eo1 eo2
            subst eo1 eo2
            rw [HRM.out] at o0 o1 o2 o3
            dsimp only at o0 o1 o2 o3
            generalize ws.getD i 0 = z at *
            obtain ⟨T, hT⟩ : ∃ T, X + suW ws 0 i = T := ⟨_, rfl⟩
            have ht1 : -30000 ≤ T := by omega
            have ht2 : T ≤ 30000 := by omega
            rw [hT] at hTF ⊢
            generalize suW ws 0 b = S at *
            have g9 : ¬ (i : Int) < (i : Int) := by omega
            clear hT hs3 e1 HSP HSU HSS HXE HWS HF
            go_wp2_with fail
            go_quiet (fail)
            have hfin2 := below_drewN hfin nq
            generalize wr.drewN nq = wz at hfin2
            clear o0 o1 o2 o3 t0 t1 c0
            go_wp2
            go_ret
            exact ⟨rfl, hfin2⟩

end Go.Proofs.Ytchdoakoelfenaa
