/-
  foundrylaw21.PlaceAdds: the walk.
-/
import Derived.Test.YtchdoakoelfenaaZJ25
import Derived.Test.YtchdoakoelfenaaZJ26
namespace Go.Proofs.Ytchdoakoelfenaa
open Go.RowKit Go.Maps
set_option linter.unusedSimpArgs false
set_option linter.unusedVariables false

set_option maxHeartbeats 16000000 in
set_option maxRecDepth 100000 in
theorem placeAdds_any (a : Option Addr) (ca : Nat) (xs : List Nat) (b0 b1 : Int) (n : Int) (w : World) (hp : Rb w a ca xs) (hb0 : -128 ≤ b0 ∧ b0 < 128) (hb1 : -128 ≤ b1 ∧ b1 < 128) (hn : 0 ≤ n ∧ n < 256) :
    Calls Try.prog 5 #[.slice a xs.length ca, .agg #[.int .i8 b0, .int .i8 b1], .int .u8 n] w fun e w' => e = .returned (.bool true) ∧ Below w.heap.size w w' := by
  have kl : xs.length ≤ 9223372036854775807 := by have h1 := hp.le; have h2 := hp.cap; unfold maxLen at h2; omega
  obtain ⟨W, hW, BX, bel⟩ : ∃ W, W = w.alloc (.cells #[.int .i8 b0, .int .i8 b1] 47) ∧ Bk 47 W w.heap.size [.int .i8 b0, .int .i8 b1] ∧ Below w.heap.size w W := ⟨_, rfl, Bk.new _ _ _, bl1 _⟩
  have HP : Hid (Rb W a ca xs) := hp.below bel
  obtain ⟨q1, q2⟩ := hb0
  obtain ⟨q3, q4⟩ := hb1
  clear hp
  go_enter Try.func5, Try.ntmps5
  go_upto_region 1 with fail
  rw [← hW]
  clear hW
  have haw := awake21_any W
  go_wp2_with fail
  refine haw.mono ?_
  rintro e u1 ⟨rfl, hb⟩
  have HP : Hid (Rb u1 a ca xs) := HP.out.below hb
  replace BX := BX.below hb
  replace bel := bel.trans (hb.mono bel.size)
  clear haw hb
  by_cases n0 : 60 < xs.length
  · have d0 : decide ((60 : Int) < (xs.length : Int)) = true := decide_eq_true (by omega)
    have e0 : decide (60 < xs.length) = true := decide_eq_true (by omega)
    have haw := awake21_any u1
    clear n0
    go_wp2_with fail
    refine haw.mono ?_
    rintro e u2 ⟨rfl, hb⟩
    have hfin := bel.trans (hb.mono bel.size)
    clear haw hb
    go_wp2
    go_ret
    exact ⟨rfl, hfin⟩
  have d0 : decide ((60 : Int) < (xs.length : Int)) = false := decide_eq_false (by omega)
  have e0 : decide (60 < xs.length) = false := decide_eq_false (by omega)
  go_wp2
  clear d0 e0
  obtain ⟨m, hm⟩ : ∃ m, xs.length = m := ⟨_, rfl⟩
  rw [hm] at kl n0 ⊢
  have HXL : Hid (xs.length = m) := hm
  have HF0 : Hid (biL xs 0 = []) := rfl
  have HFS : Hid (∀ k, biL xs (k + 1) = biL xs k ++ [((xs.getD k 0 : Nat) : Int)]) := biL_succ xs
  have HFL : Hid (∀ k, (biL xs k).length = k) := biL_len xs
  have HFI : Hid (∀ z ∈ biL xs m, 0 ≤ z ∧ z ≤ 255) := biL_in HP.out.lim m
  generalize biL xs = F at HF0 HFS HFL HFI
  clear hm
  go_loopw [7, 8] (fun vo vi wr => ∃ k : Nat, k ≤ m ∧ vi = .int .i64 k ∧ Hid (Gi u1.heap.size wr vo (F k)) ∧ Below u1.heap.size u1 wr) (fun _ vi _ => m - (intOf vi).toNat)
  case atStart => exact ⟨0, Nat.zero_le _, rfl, (by show Gi _ _ _ _; rw [HF0.out]; exact Gi.nil _ _), Below.refl _ _⟩
  case round =>
    obtain ⟨k, hk, rfl, hGw, hB⟩ := hrel
    by_cases hkn : k < m
    · obtain ⟨xb, xo, rfl, hxb, c0⟩ := HP.out.fm.at hB k (by rw [HXL.out]; exact hkn)
      have hby : xs.getD k 0 < 256 := HP.out.lim.getD k
      have HSS := HFS.out k
      obtain ⟨va, vc, rfl, -, -⟩ := hGw.out.slice
      generalize xs.getD k 0 = z at c0 hby HSS
      have HSS2 : Hid (F (k + 1) = F k ++ [(z : Int)]) := HSS
      have i1 : (0 : Int) ≤ (k : Int) := by omega
      have i2 : (k : Int) < (m : Int) := by omega
      have hzi : I64 (z : Int) := ⟨by omega, by omega⟩
      obtain ⟨V9, hV9, Y9, hb9⟩ : ∃ V, V = wr.alloc (.cells #[.int .i64 (z : Int)] 3) ∧ Bk 3 V wr.heap.size [.int .i64 (z : Int)] ∧ Below wr.heap.size wr V := ⟨_, rfl, Bk.new _ _ _, bl1 _⟩
      have hGb := hGw.out.below hb9
      have hBb := hB.trans (hb9.mono hB.size)
      have hbs : u1.heap.size ≤ V9.heap.size := hBb.size
      have hll : (F k).length + 1 ≤ 1000000 := by rw [HFL.out k]; omega
      have hlt := Y9.lt
      have y0 : V9.cell? ⟨wr.heap.size, 0, none⟩ = some (.int .i64 (z : Int)) := Y9.cell 0 (by simp)
      have HLO : Hid (∀ q, (Value.slice va (F k).length vc).ownBlock = some q → u1.heap.size ≤ q) := fun q hq => (hGw.out.lo hq).1
      clear HSS hGw
      go_wp2_with (at_builtin; rw [← hV9]; refine wpList_append_gi rfl _ _ rfl u1.heap.size _ (F k) rfl hGb wr.heap.size z rfl hlt y0 hzi hll hbs ?_)
      intro v9 w9 hT9 hgrow _
      rw [← hV9] at hgrow
      rw [← HSS2.out] at hT9
      have HT9 : Hid (Gi u1.heap.size w9 v9 (F (k + 1))) := hT9
      have hB9 : Below u1.heap.size u1 w9 := hBb.grown hgrow hBb.size (fun q hq => HLO.out q hq)
      clear hT9 hgrow hGb hbs hll hBb hV9 Y9 c0 hB y0 hlt hb9 hby hzi
      go_wp2
      go_roundw
      case rel => exact ⟨k + 1, by omega, by go_num, HT9, hB9⟩
      case measure => simp [intOf]; omega
    · obtain rfl : k = m := by omega
      obtain ⟨la, lc, rfl, hli, -⟩ := hGw.out.slice
      have hm60 : k ≤ 60 := by omega
      have hlen := HFL.out k
      have hin := HFI.out
      generalize F k = L at hli hlen hin
      rw [hlen]
      have g4 : ¬ (k : Int) < (k : Int) := by omega
      clear HF0 HFS HFL HFI HXL hGw hkn hk n0
      obtain ⟨Y, hY⟩ : ∃ Y, Y = wr := ⟨_, rfl⟩
      rw [← hY] at hB hli ⊢
      clear hY
      replace BX := BX.below hB
      replace bel := bel.trans (hB.mono bel.size)
      clear hB
      have hLI := hli
      clear hli
      obtain ⟨V0, hV0, BI0, hb⟩ : ∃ V, V = Y.alloc (.cells #[.int .i64 3] 3) ∧ Bk 3 V Y.heap.size [.int .i64 3] ∧ Below Y.heap.size Y V := ⟨_, rfl, Bk.new _ _ _, bl1 _⟩
      replace BX := BX.below hb
      replace hLI := hLI.below hb
      replace bel := bel.trans (hb.mono bel.size)
      clear hb
      obtain ⟨t0, t1, -⟩ := BX.two
      rw [hV0] at t0 t1
      go_wp2_with fail
      rw [← hV0]
      clear hV0
      refine (flat21_any b0 V0).mono ?_
      rintro e U1 ⟨rfl, hb⟩
      replace BX := BX.below hb
      replace hLI := hLI.below hb
      replace BI0 := BI0.below hb
      replace bel := bel.trans (hb.mono bel.size)
      clear hb
      clear t0 t1
      go_wp2_with fail
      refine (flat21_any 1 U1).mono ?_
      rintro e U2 ⟨rfl, hb⟩
      replace BX := BX.below hb
      replace hLI := hLI.below hb
      replace BI0 := BI0.below hb
      replace bel := bel.trans (hb.mono bel.size)
      clear hb
      go_wp2_with fail
      refine (flat21_any 2 U2).mono ?_
      rintro e U3 ⟨rfl, hb⟩
      replace BX := BX.below hb
      replace hLI := hLI.below hb
      replace BI0 := BI0.below hb
      replace bel := bel.trans (hb.mono bel.size)
      clear hb
      obtain ⟨V1, hV1, BRA, hb⟩ : ∃ V, V = U3.alloc (.cells #[.slice (some ⟨Y.heap.size, 0, none⟩) 1 1, .slice none 0 0, .int .i64 0, .int .i64 0, .int .i64 b0, .int .i64 (-1), .int .i64 1, .int .i64 (-1), .int .i64 2, .int .i64 (-1)] 52) ∧ Bk 52 V U3.heap.size [.slice (some ⟨Y.heap.size, 0, none⟩) 1 1, .slice none 0 0, .int .i64 0, .int .i64 0, .int .i64 b0, .int .i64 (-1), .int .i64 1, .int .i64 (-1), .int .i64 2, .int .i64 (-1)] ∧ Below U3.heap.size U3 V := ⟨_, rfl, Bk.new _ _ _, bl1 _⟩
      replace BX := BX.below hb
      replace hLI := hLI.below hb
      replace BI0 := BI0.below hb
      replace bel := bel.trans (hb.mono bel.size)
      clear hb
      go_upto_region 9 with fail
      rw [← hV1]
      clear hV1
      obtain ⟨V2, hV2, BI1, hb⟩ : ∃ V, V = V1.alloc (.cells #[.int .i64 3] 3) ∧ Bk 3 V V1.heap.size [.int .i64 3] ∧ Below V1.heap.size V1 V := ⟨_, rfl, Bk.new _ _ _, bl1 _⟩
      replace BX := BX.below hb
      replace hLI := hLI.below hb
      replace BI0 := BI0.below hb
      replace BRA := BRA.below hb
      replace bel := bel.trans (hb.mono bel.size)
      clear hb
      obtain ⟨t0, t1, -⟩ := BX.two
      rw [hV2] at t0 t1
      go_wp2_with fail
      rw [← hV2]
      clear hV2
      refine (flat21_any b1 V2).mono ?_
      rintro e U4 ⟨rfl, hb⟩
      replace BX := BX.below hb
      replace hLI := hLI.below hb
      replace BI0 := BI0.below hb
      replace BRA := BRA.below hb
      replace BI1 := BI1.below hb
      replace bel := bel.trans (hb.mono bel.size)
      clear hb
      clear t0 t1
      go_wp2_with fail
      refine (flat21_any 0 U4).mono ?_
      rintro e U5 ⟨rfl, hb⟩
      replace BX := BX.below hb
      replace hLI := hLI.below hb
      replace BI0 := BI0.below hb
      replace BRA := BRA.below hb
      replace BI1 := BI1.below hb
      replace bel := bel.trans (hb.mono bel.size)
      clear hb
      go_wp2_with fail
      refine (flat21_any (-7) U5).mono ?_
      rintro e U6 ⟨rfl, hb⟩
      replace BX := BX.below hb
      replace hLI := hLI.below hb
      replace BI0 := BI0.below hb
      replace BRA := BRA.below hb
      replace BI1 := BI1.below hb
      replace bel := bel.trans (hb.mono bel.size)
      clear hb
      obtain ⟨V3, hV3, BRB, hb⟩ : ∃ V, V = U6.alloc (.cells #[.slice (some ⟨V1.heap.size, 0, none⟩) 1 1, .slice none 0 0, .int .i64 0, .int .i64 0, .int .i64 b1, .int .i64 (-1), .int .i64 0, .int .i64 (-1), .int .i64 (-7), .int .i64 (-1)] 52) ∧ Bk 52 V U6.heap.size [.slice (some ⟨V1.heap.size, 0, none⟩) 1 1, .slice none 0 0, .int .i64 0, .int .i64 0, .int .i64 b1, .int .i64 (-1), .int .i64 0, .int .i64 (-1), .int .i64 (-7), .int .i64 (-1)] ∧ Below U6.heap.size U6 V := ⟨_, rfl, Bk.new _ _ _, bl1 _⟩
      replace BX := BX.below hb
      replace hLI := hLI.below hb
      replace BI0 := BI0.below hb
      replace BRA := BRA.below hb
      replace BI1 := BI1.below hb
      replace bel := bel.trans (hb.mono bel.size)
      clear hb
      go_upto_region 10 with fail
      rw [← hV3]
      clear hV3
      obtain ⟨ra0, ra1, ra2, ra3, ra4, ra5, ra6, ra7, ra8, ra9⟩ := Bk.ten21 BRA
      have hBR := BRB.below (bl1 (w := V3) (.cells #[.slice (some ⟨Y.heap.size, 0, none⟩) 1 1, .slice none 0 0, .int .i64 0, .int .i64 0, .int .i64 b0, .int .i64 (-1), .int .i64 1, .int .i64 (-1), .int .i64 2, .int .i64 (-1)] 52))
      obtain ⟨rb0, rb1, rb2, rb3, rb4, rb5, rb6, rb7, rb8, rb9⟩ := Bk.ten21 hBR
      clear hBR
      obtain ⟨V4, hV4⟩ : ∃ V, V = ((V3.alloc (.cells #[.slice (some ⟨Y.heap.size, 0, none⟩) 1 1, .slice none 0 0, .int .i64 0, .int .i64 0, .int .i64 b0, .int .i64 (-1), .int .i64 1, .int .i64 (-1), .int .i64 2, .int .i64 (-1)] 52)).alloc (.cells #[.slice (some ⟨V1.heap.size, 0, none⟩) 1 1, .slice none 0 0, .int .i64 0, .int .i64 0, .int .i64 b1, .int .i64 (-1), .int .i64 0, .int .i64 (-1), .int .i64 (-7), .int .i64 (-1)] 52)).alloc (.cells #[.int .i64 5, .bool false, .slice (some ⟨V3.heap.size, 0, none⟩) 1 1, .int .i64 5, .bool false, .slice (some ⟨V3.heap.size + 1, 0, none⟩) 1 1] 55) := ⟨_, rfl⟩
      obtain ⟨BA, BB, BL, hb4⟩ := new3B V3 52 52 55 [.slice (some ⟨Y.heap.size, 0, none⟩) 1 1, .slice none 0 0, .int .i64 0, .int .i64 0, .int .i64 b0, .int .i64 (-1), .int .i64 1, .int .i64 (-1), .int .i64 2, .int .i64 (-1)] [.slice (some ⟨V1.heap.size, 0, none⟩) 1 1, .slice none 0 0, .int .i64 0, .int .i64 0, .int .i64 b1, .int .i64 (-1), .int .i64 0, .int .i64 (-1), .int .i64 (-7), .int .i64 (-1)] [.int .i64 5, .bool false, .slice (some ⟨V3.heap.size, 0, none⟩) 1 1, .int .i64 5, .bool false, .slice (some ⟨V3.heap.size + 1, 0, none⟩) 1 1] V4 hV4
      replace BX := BX.below hb4
      replace hLI := hLI.below hb4
      replace BI0 := BI0.below hb4
      replace BRA := BRA.below hb4
      replace BI1 := BI1.below hb4
      replace BRB := BRB.below hb4
      replace bel := bel.trans (hb4.mono bel.size)
      clear hb4
      have r0 := grI_of_bk (zs := [3]) BI0 (by intro z hz; simp at hz; subst hz; exact ⟨by omega, by omega⟩) (by decide)
      have r1 := grI_of_bk (zs := [3]) BI1 (by intro z hz; simp at hz; subst hz; exact ⟨by omega, by omega⟩) (by decide)
      have r2 : Gr RuE (fun _ => True) V4 (some ⟨V3.heap.size, 0, none⟩) 1 [ruJ [3] b0 1 2] := gr1_of_bk BA (ruJ_rep r0 (by decide) ⟨q1, by omega⟩ ⟨by decide, by decide⟩ ⟨by decide, by decide⟩)
      have r3 : Gr RuE (fun _ => True) V4 (some ⟨V3.heap.size + 1, 0, none⟩) 1 [ruJ [3] b1 0 (-7)] := gr1_of_bk BB (ruJ_rep r1 (by decide) ⟨q3, by omega⟩ ⟨by decide, by decide⟩ ⟨by decide, by decide⟩)
      have hLK : Gr LkE (fun _ => True) V4 (some ⟨V3.heap.size + 2, 0, none⟩) 2 (adJ b0 b1) := gr2_of_bk (cs := [.int .i64 5, .bool false, .slice (some ⟨V3.heap.size, 0, none⟩) 1 1]) (ds := [.int .i64 5, .bool false, .slice (some ⟨V3.heap.size + 1, 0, none⟩) 1 1]) BL (lk0_rep r2 ⟨by omega, by omega⟩ (by simp)) (lk0_rep r3 ⟨by omega, by omega⟩ (by simp))
      clear r0 r1 r2 r3 BA BB BL BI0 BI1 BRA BRB
      have hla : Calls Try.prog 9 #[.slice la k lc, .slice none 0 0] V4 fun e w' => RowP (laL L []) V4.heap.size w' e ∧ Below V4.heap.size V4 w' := by
        have := clay_any la lc L none 0 [] V4 hLI (Ri.nil _ _ _ (Nat.zero_le _)) (by omega)
        rw [hlen] at this
        exact this
      go_wp2_with fail
      rw [← hV4]
      clear hV4 ra0 rb0 ra1 rb1 ra2 rb2 ra3 rb3 ra4 rb4 ra5 rb5 ra6 rb6 ra7 rb7 ra8 rb8 ra9 rb9
      refine hla.mono ?_
      rintro e u7 ⟨⟨v, rfl, hv⟩, hb⟩
      obtain ⟨qa, qc, rfl, hq, -⟩ := hv.slice
      have hpl : (laL L []).length = k := by rw [laL_len]; exact hlen
      rw [hpl]
      replace BX := BX.below hb
      replace hLI := hLI.below hb
      replace hLK := hLK.below hb
      replace bel := bel.trans (hb.mono bel.size)
      clear hla hv hb
      obtain ⟨lb, hlb⟩ : ∃ lb, V3.heap.size + 2 = lb := ⟨_, rfl⟩
      rw [hlb] at hLK ⊢
      clear hlb
      have HAL : Hid (∀ (U : World) (xa : Option Addr) (xc : Nat) (ks : List Int) (X : List Pd), Gr LkE (fun _ => True) U (some ⟨lb, 0, none⟩) 2 (adJ b0 b1) → Ri U xa xc ks → Gr PdE (fun _ => False) U qa qc (laL L []) → (∀ j ∈ ks, j = 0 ∨ j = 1) → L.map (fun g => ks.foldl (fun q j => stJ b0 b1 j q) (⟨g, 0, 0, 0⟩ : Pd)) = X → Calls Try.prog 12 #[.slice (some ⟨lb, 0, none⟩) 2 2, .slice xa ks.length xc, .agg #[.slice none 0 0, .slice none 0 0, .slice none 0 0, .slice none 0 0], .slice qa k qc] U fun e w' => PaA (0, X) U.heap.size w' e ∧ Below U.heap.size U w') := fun U xa xc ks X g1 g2 g3 g4 g5 => by
        have := callP_any (fun _ => True) (fun _ => True) (fun _ => False) (some ⟨lb, 0, none⟩) 2 (adJ b0 b1) xa xc ks none 0 none 0 sJ none 0 [] none 0 [] qa qc (laL L []) U g1 g2 (sJ_tz U) (sJ_ri U) (Gr.nil _ _ _ _ _ (Nat.zero_le _) (fun _ => rfl)) (Ri.nil _ _ _ (Nat.zero_le _)) (by decide) (fun l hl => by simp [sJ] at hl) g3 (by rw [hpl]; omega)
        rw [ad_line (fun z h1 h2 => sJ_fi z h1 h2) (fun z h1 h2 => sJ_ro [] z h1 h2) ⟨q1, by omega⟩ ⟨q3, by omega⟩ (by omega) g4, g5, hpl] at this
        exact this
      have HL3 : Hid (∀ i, i < k → I64 (L.getD i 0)) := fun i hi => by
        have := hin (L.getD i 0) (by rw [List.getD_eq_getElem?_getD, List.getElem?_eq_getElem (by omega)]; exact List.getElem_mem _)
        exact ⟨by omega, by omega⟩
      have HPP : Hid (L.map (fun g => ([0, 1] : List Int).foldl (fun q j => stJ b0 b1 j q) (⟨g, 0, 0, 0⟩ : Pd)) = L.map (ppJ b0 b1)) := List.map_congr_left (fun g _ => ad_p ⟨q1, by omega⟩ ⟨q3, by omega⟩ g)
      have HQQ : Hid (L.map (fun g => ([1, 0] : List Int).foldl (fun q j => stJ b0 b1 j q) (⟨g, 0, 0, 0⟩ : Pd)) = L.map (ppJ b0 b1)) := List.map_congr_left (fun g _ => ad_q ⟨q1, by omega⟩ ⟨q3, by omega⟩ g)
      have HRR : Hid (∀ r : Nat, r ≤ 20 → L.map (fun g => (List.replicate r (0 : Int)).foldl (fun q j => stJ b0 b1 j q) (⟨g, 0, 0, 0⟩ : Pd)) = L.map (rrJ b0 r)) := fun r hr => List.map_congr_left (fun g _ => ad_r ⟨q1, by omega⟩ hr g)
      have HML : Hid (∀ f : Int → Pd, (L.map f).length = k) := fun f => by rw [List.length_map]; exact hlen
      have HLEN : Hid (L.length = k) := hlen
      clear hpl hlen hin
      obtain ⟨V5, hV5, BZ, hb⟩ : ∃ V, V = u7.alloc (.cells #[.int .i64 0, .int .i64 1] 3) ∧ Bk 3 V u7.heap.size [.int .i64 0, .int .i64 1] ∧ Below u7.heap.size u7 V := ⟨_, rfl, Bk.new _ _ _, bl1 _⟩
      replace BX := BX.below hb
      replace hLI := hLI.below hb
      replace hLK := hLK.below hb
      replace hq := hq.below hb
      replace bel := bel.trans (hb.mono bel.size)
      clear hb
      have rz := grI_of_bk (zs := [0, 1]) BZ (by intro z hz; simp at hz; rcases hz with rfl | rfl <;> exact ⟨by omega, by omega⟩) (by decide)
      have hal := HAL.out V5 _ _ [0, 1] (L.map (ppJ b0 b1)) hLK rz.ri hq (by intro j hj; simp at hj; omega) HPP.out
      clear rz BZ
      go_wp2_with fail
      rw [← hV5]
      clear hV5
      refine hal.mono ?_
      rintro e u8 ⟨⟨v, rfl, hv⟩, hb⟩
      dsimp only at hv ⊢
      obtain ⟨pa, pc, rfl, hpp, -⟩ := hv.slice
      rw [HML.out]
      replace BX := BX.below hb
      replace hLI := hLI.below hb
      replace hLK := hLK.below hb
      replace hq := hq.below hb
      replace bel := bel.trans (hb.mono bel.size)
      clear hal hv hb
      obtain ⟨V6, hV6, BZ, hb⟩ : ∃ V, V = u8.alloc (.cells #[.int .i64 1, .int .i64 0] 3) ∧ Bk 3 V u8.heap.size [.int .i64 1, .int .i64 0] ∧ Below u8.heap.size u8 V := ⟨_, rfl, Bk.new _ _ _, bl1 _⟩
      replace BX := BX.below hb
      replace hLI := hLI.below hb
      replace hLK := hLK.below hb
      replace hq := hq.below hb
      replace hpp := hpp.below hb
      replace bel := bel.trans (hb.mono bel.size)
      clear hb
      have rz := grI_of_bk (zs := [1, 0]) BZ (by intro z hz; simp at hz; rcases hz with rfl | rfl <;> exact ⟨by omega, by omega⟩) (by decide)
      have hal := HAL.out V6 _ _ [1, 0] (L.map (ppJ b0 b1)) hLK rz.ri hq (by intro j hj; simp at hj; omega) HQQ.out
      clear rz BZ
      go_wp2_with fail
      rw [← hV6]
      clear hV6
      refine hal.mono ?_
      rintro e u9 ⟨⟨v, rfl, hv⟩, hb⟩
      dsimp only at hv ⊢
      obtain ⟨pa2, pc2, rfl, hpq, -⟩ := hv.slice
      rw [HML.out]
      replace BX := BX.below hb
      replace hLI := hLI.below hb
      replace hLK := hLK.below hb
      replace hq := hq.below hb
      replace hpp := hpp.below hb
      replace bel := bel.trans (hb.mono bel.size)
      clear hal hv hb
      obtain ⟨h0, h256⟩ := hn
      obtain ⟨r, hr⟩ : ∃ r : Nat, n.tmod 20 = (r : Int) := ⟨(n.tmod 20).toNat, by rw [Int.tmod_eq_emod_of_nonneg h0]; omega⟩
      have hr20 : r < 20 := by rw [Int.tmod_eq_emod_of_nonneg h0] at hr; omega
      go_wp2
      go_loopw [17, 18] (fun vo vi wr => ∃ j : Nat, j ≤ r ∧ vi = .int .i64 j ∧ Hid (Gi u9.heap.size wr vo (List.replicate j 0)) ∧ Below u9.heap.size u9 wr) (fun _ vi _ => r - (intOf vi).toNat)
      case atStart => exact ⟨0, Nat.zero_le _, rfl, Gi.nil _ _, Below.refl _ _⟩
      case round =>
        rename World => wr
        obtain ⟨j, hj, rfl, hGw, hB⟩ := hrel
        obtain ⟨ga, gc, rfl, hgr, -⟩ := hGw.out.slice
        by_cases hjr : j < r
        · have i1 : (j : Int) < (r : Int) := by omega
          obtain ⟨V9, hV9, Y9, hb9⟩ : ∃ V, V = wr.alloc (.cells #[.int .i64 0] 3) ∧ Bk 3 V wr.heap.size [.int .i64 0] ∧ Below wr.heap.size wr V := ⟨_, rfl, Bk.new _ _ _, bl1 _⟩
          have hGb := hGw.out.below hb9
          have hBb := hB.trans (hb9.mono hB.size)
          have hbs : u9.heap.size ≤ V9.heap.size := hBb.size
          have hll : (List.replicate j (0 : Int)).length + 1 ≤ 1000000 := by rw [List.length_replicate]; omega
          have hlt := Y9.lt
          have y0 : V9.cell? ⟨wr.heap.size, 0, none⟩ = some (.int .i64 0) := Y9.cell 0 (by simp)
          have HLO : Hid (∀ q, (Value.slice ga (List.replicate j (0 : Int)).length gc).ownBlock = some q → u9.heap.size ≤ q) := fun q hq => (hGw.out.lo hq).1
          clear hGw hgr
          go_wp2_with (at_builtin; rw [← hV9]; refine wpList_append_gi rfl _ _ rfl u9.heap.size _ (List.replicate j 0) rfl hGb wr.heap.size 0 rfl hlt y0 ⟨by decide, by decide⟩ hll hbs ?_)
          intro v9 w9 hT9 hgrow _
          rw [← hV9] at hgrow
          rw [← List.replicate_succ'] at hT9
          have HT9 : Hid (Gi u9.heap.size w9 v9 (List.replicate (j + 1) 0)) := hT9
          have hB9 : Below u9.heap.size u9 w9 := hBb.grown hgrow hBb.size (fun q hq => HLO.out q (by rw [List.length_replicate]; exact hq))
          clear hT9 hgrow hGb hbs hll hBb hV9 Y9 hB y0 hlt hb9
          go_wp2
          go_roundw
          case rel => exact ⟨j + 1, by omega, by go_num, HT9, hB9⟩
          case measure => simp [intOf]; omega
        · obtain rfl : j = r := by omega
          have g9 : ¬ (j : Int) < (j : Int) := by omega
          have hrl : (List.replicate j (0 : Int)).length = j := List.length_replicate
          have hal := HAL.out wr ga gc (List.replicate j 0) (L.map (rrJ b0 j)) (hLK.below hB) hgr (hq.below hB) (by intro z hz; exact .inl (List.eq_of_mem_replicate hz)) (HRR.out j (by omega))
          rw [hrl] at hal ⊢
          obtain ⟨Z0, hZ0⟩ : ∃ Z, Z = wr := ⟨_, rfl⟩
          rw [← hZ0] at hB hal ⊢
          clear hZ0 hGw hgr hrl hjr
          replace BX := BX.below hB
          replace hLI := hLI.below hB
          replace hLK := hLK.below hB
          replace hq := hq.below hB
          replace hpp := hpp.below hB
          replace hpq := hpq.below hB
          replace bel := bel.trans (hB.mono bel.size)
          clear hB
          go_wp2_with fail
          refine hal.mono ?_
          rintro e u10 ⟨⟨v, rfl, hv⟩, hb⟩
          dsimp only at hv ⊢
          obtain ⟨pr, prc, rfl, hpr, -⟩ := hv.slice
          rw [HML.out]
          replace BX := BX.below hb
          replace hLI := hLI.below hb
          replace hLK := hLK.below hb
          replace hq := hq.below hb
          replace hpp := hpp.below hb
          replace hpq := hpq.below hb
          replace bel := bel.trans (hb.mono bel.size)
          have hsa := ssameP_any _ _ pa pc pa2 pc2 (L.map (ppJ b0 b1)) u10 hpp hpq
          rw [HML.out] at hsa
          clear hal hv hb HAL HPP HQQ HRR hLK hq
          go_wp2_with fail
          refine hsa.mono ?_
          rintro e u11 ⟨rfl, hb⟩
          replace BX := BX.below hb
          replace hLI := hLI.below hb
          replace hpp := hpp.below hb
          replace hpr := hpr.below hb
          replace bel := bel.trans (hb.mono bel.size)
          clear hsa hb hpq
          have hjb1 : -2560 ≤ (j : Int) * b0 := by
            have h1 : (j : Int) * (-128) ≤ (j : Int) * b0 := Int.mul_le_mul_of_nonneg_left q1 (by omega)
            omega
          have hjb2 : (j : Int) * b0 ≤ 2560 := by
            have h1 : (j : Int) * b0 ≤ (j : Int) * 128 := Int.mul_le_mul_of_nonneg_left (by omega) (by omega)
            omega
          have HFI : Hid (Bk 47 u11 w.heap.size [.int .i8 b0, .int .i8 b1] ∧ Ri u11 la lc L ∧ Gr PdE (fun _ => False) u11 pa pc (L.map (ppJ b0 b1)) ∧ Gr PdE (fun _ => False) u11 pr prc (L.map (rrJ b0 j))) := ⟨BX, hLI, hpp, hpr⟩
          clear BX hLI hpp hpr
          go_wp2
          go_loopw [21] (fun vi wr => ∃ i : Nat, i ≤ k ∧ vi = .int .i64 i ∧ Below u11.heap.size u11 wr) (fun vi _ => k - (intOf vi).toNat)
          case atStart => exact ⟨0, Nat.zero_le _, rfl, Below.refl _ _⟩
          case round =>
            rename World => wr
            obtain ⟨i, hik, rfl, hB⟩ := hrel
            by_cases hin : i < k
            · have i1 : (0 : Int) ≤ (i : Int) := by omega
              have i2 : (i : Int) < (k : Int) := by omega
              obtain ⟨BX, hLI, hpp, hpr⟩ := HFI.out
              obtain ⟨t0, t1, -⟩ := (BX.below hB).two
              obtain ⟨lb1, lo1, el, -, c0⟩ := hLI.at hB i (by rw [HLEN.out]; exact hin)
              obtain ⟨pb1, po1, ep, -, -, -, c1, -, c2⟩ := hpp.pd hB i (by rw [HML.out]; exact hin)
              obtain ⟨rb1, ro1, er, -, -, -, d1, d2, -⟩ := hpr.pd hB i (by rw [HML.out]; exact hin)
              rw [getM (by rw [HLEN.out]; exact hin)] at c1 c2 d1 d2
              generalize L.getD i 0 = g at *
              subst el ep er
              clear BX hLI hpp hpr
              by_cases hg : g = 3
              · subst hg
                replace c1 : wr.cell? ⟨pb1, po1 + i * 4 + 1, none⟩ = some (.int .i64 (b0 + b1)) := c1
                replace c2 : wr.cell? ⟨pb1, po1 + i * 4 + 3, none⟩ = some (.int .i64 (-5)) := c2
                replace d1 : wr.cell? ⟨rb1, ro1 + i * 4 + 1, none⟩ = some (.int .i64 ((j : Int) * b0)) := d1
                replace d2 : wr.cell? ⟨rb1, ro1 + i * 4 + 2, none⟩ = some (.int .i64 (j : Int)) := d2
                go_wp2_with fail
                go_quiet (fail)
                go_wp2
                go_roundw
                case rel => exact ⟨i + 1, by omega, by go_num, below_drewN hB _⟩
                case measure => simp [intOf]; omega
              · have gg : (g == 3) = false := beq_eq_false_iff_ne.2 hg
                have e1 : ppJ b0 b1 g = ⟨g, 0, 0, 0⟩ := by unfold ppJ; rw [if_neg hg]
                have e2 : rrJ b0 j g = ⟨g, 0, 0, 0⟩ := by unfold rrJ; rw [if_neg hg]
                rw [e1] at c1 c2
                rw [e2] at d1 d2
                clear e1 e2 hg
                go_wp2_with fail
                go_quiet (fail)
                go_wp2
                go_roundw
                case rel => exact ⟨i + 1, by omega, by go_num, below_drewN hB _⟩
                case measure => simp [intOf]; omega
            · have g1 : ¬ (i : Int) < (k : Int) := by omega
              have hfin := bel.trans (hB.mono bel.size)
              go_wp2
              go_ret
              exact ⟨rfl, hfin⟩

end Go.Proofs.Ytchdoakoelfenaa
