/-
  foundryref22.Read: the walk.
-/
import Derived.Test.YtaejlopkdkaphaaZE19
import Derived.Test.YtaejlopkdkaphaaZE2
import Derived.Test.YtaejlopkdkaphaaZE17
import Derived.OwnWalk
import Derived.Deep.CutBlock
import Derived.Deep.CutRange
namespace Go.Proofs.Ytaejlopkdkaphaa
open Go.RowKit Go.Maps
set_option linter.unusedSimpArgs false
set_option linter.unusedVariables false

theorem tgV_szF {xs : List Nat} (h : xs.length ≤ 1000000000) (p : Int) : (tgV xs p).size ≤ maxLen := by
  unfold tgV
  split
  · rw [size_str8]
    have : (cutV xs p 4).length ≤ xs.length := by
      unfold cutV
      split
      · rw [List.length_take, List.length_drop]; omega
      · simp
    unfold maxLen
    omega
  · exact Nat.zero_le _
theorem ftV_at (xs : List Nat) (q : Nat) : ftV (xs.drop q) = ⟨tgV xs (q : Int), nlV (xs.drop (q + 4))⟩ ∧ q + ftU (xs.drop q) = q + 4 + nlU (xs.drop (q + 4)) := by
  refine ⟨by rw [ftV, List.drop_drop, (tgV_drop xs q).1], ?_⟩
  rw [ftU, List.drop_drop]
  omega
theorem cnV_at (xs : List Nat) (q : Nat) : cnV (xs.drop q) = ⟨nuV (xs.drop q), sx16 (hd2 (xs.drop (q + 2))), sx16 (hd2 (xs.drop (q + 4)))⟩ := by rw [cnV, List.drop_drop, List.drop_drop]
theorem swV_at (xs : List Nat) (q z : Nat) (hz : z = q + csU (xs.drop q)) : swV (xs.drop q) = ⟨csV (xs.drop q), nuV (xs.drop z), nlV (xs.drop (z + 2))⟩ ∧ q + swU (xs.drop q) = z + 2 + nlU (xs.drop (z + 2)) := by
  subst hz
  refine ⟨by rw [swV, List.drop_drop, List.drop_drop, ← Nat.add_assoc], ?_⟩
  rw [swU, List.drop_drop, ← Nat.add_assoc q, ← Nat.add_assoc q]

set_option maxHeartbeats 16000000 in
set_option maxRecDepth 100000 in
theorem sread22_any (a : Option Addr) (cap : Nat) (xs : List Nat) (n ax : Int) (w : World) (hx : Rb w a cap xs) (hxl : xs.length ≤ 1000000) :
    Calls Try.prog 18 #[.slice a xs.length cap, .int .i64 n, .int .i64 ax] w fun e w' => ∃ a1 c1 a2 c2, e = .returned (.tuple #[.slice a1 (rdFL xs n ax).length c1, .slice a2 (rdFS xs n ax).length c2, .int .i64 (rdFE xs n ax)]) ∧ FtE.row.rep (fun k => w.heap.size ≤ k) w' [.slice a1 (rdFL xs n ax).length c1] (rdFL xs n ax) ∧ SwE.row.rep (fun k => w.heap.size ≤ k) w' [.slice a2 (rdFS xs n ax).length c2] (rdFS xs n ax) ∧ Below w.heap.size w w' := by
  have hpc := hx.le
  have hpm := hx.cap
  unfold maxLen at hpm
  have HX : Hid (Rb w a cap xs) := hx
  have HNO : Hid (¬ (usV22 xs = xs.length ∧ foFt (ofV xs) (osV xs) n ax = true ∧ n ≤ 65536 ∧ ax ≤ 65536) → rdFE xs n ax = 2 ∧ rdFL xs n ax = [] ∧ rdFS xs n ax = []) := rdF22_no
  have HYE : Hid ((usV22 xs = xs.length ∧ foFt (ofV xs) (osV xs) n ax = true ∧ n ≤ 65536 ∧ ax ≤ 65536) → rdFE xs n ax = 0 ∧ rdFL xs n ax = ofV xs ∧ rdFS xs n ax = osV xs) := rdF22_yes
  have HWR : Hid ((usV22 xs = xs.length ∧ foFt (ofV xs) (osV xs) n ax = true ∧ n ≤ 65536 ∧ ax ≤ 65536) ↔ wrFE (ofV xs) (osV xs) n ax = 0 ∧ wrFB (ofV xs) (osV xs) n ax = xs) := rd_wr22 hx.lim
  have HNF : Hid (∀ U, FtE.row.rep (fun k => w.heap.size ≤ k) U [.slice none 0 0] []) := fun U => ⟨none, 0, rfl, (fun b o e => by cases e), Gr.nil _ _ _ _ _ (Nat.zero_le _) (fun _ => rfl), by simp⟩
  have HNS : Hid (∀ U, SwE.row.rep (fun k => w.heap.size ≤ k) U [.slice none 0 0] []) := fun U => ⟨none, 0, rfl, (fun b o e => by cases e), Gr.nil _ _ _ _ _ (Nat.zero_le _) (fun _ => rfl), by simp⟩
  obtain ⟨g, hgg⟩ : ∃ g, w.heap.size = g := ⟨_, rfl⟩
  have HG : Hid (w.heap.size = g) := hgg
  have hu := su16_any a cap xs 0 w hx ⟨by decide, by decide⟩
  have e0 : nmV xs 0 2 = hd2 xs := by
    have h := nmV_hd2 xs 0
    rw [List.drop_zero] at h
    exact h
  rw [e0] at hu
  have hn6 := hd2_ltF hx.lim
  have HF1 : Hid (ofV xs = mnV ftV ftU (ctV 10 xs) (xs.drop 2)) := rfl
  have HF2 : Hid (flU xs = 2 + mnU ftU (ctV 10 xs) (xs.drop 2)) := rfl
  have HFM : Hid (∀ k, mnU ftU k (xs.drop 2) ≤ 28 * k) := fun k => mnU_le (m := 28) ftU_le k _
  have hfl := flU_le xs
  have HCT : Hid (ctV 10 xs = min (hd2 xs) 11) := rfl
  obtain ⟨n1, hn1⟩ : ∃ n, hd2 xs = n := ⟨_, rfl⟩
  obtain ⟨N, hN⟩ : ∃ N, ctV 10 xs = N := ⟨_, rfl⟩
  rw [hn1] at hu hn6 HCT
  rw [hN] at HF1 HF2 HCT
  have hNN : N ≤ n1 ∧ N ≤ 11 := by have := HCT.out; omega
  obtain ⟨hN1, hN2⟩ := hNN
  have HNX : Hid (¬ (N < n1 ∧ N ≤ 10)) := fun h => by have := HCT.out; omega
  generalize inB xs.length 0 2 = th0 at hu
  clear hx hgg e0 hn1 hN HCT
  go_enter Try.func18, Try.ntmps18
  go_wp2_with fail
  refine hu.mono ?_
  rintro e u0 ⟨rfl, rfl⟩
  clear hu
  go_upto_block 0 with fail
  go_cut [11, 12] from 13 to 56 (fun s11 s12 wx => s11 = .int .i64 ((flU xs : Nat) : Int) ∧ Hid (Gw FtE 49 g (fun k => g ≤ k) wx s12 (ofV xs)) ∧ Below w.heap.size w wx)
  case first =>
    go_wp2_with fail
    go_loopw [11, 12, 13] (fun pv v i wr => ∃ (k q : Nat), k ≤ N ∧ pv = .int .i64 (q : Int) ∧ i = .int .i64 (k : Int) ∧ Hid (q = 2 + mnU ftU k (xs.drop 2)) ∧ q ≤ 1000 ∧ Gw FtE 49 g (fun k => g ≤ k) wr v (mnV ftV ftU k (xs.drop 2)) ∧ Below w.heap.size w wr) (fun _ _ i _ => N - (intOf i).toNat)
    case atStart => exact ⟨0, 2, Nat.zero_le _, rfl, rfl, (rfl : 2 = 2 + mnU ftU 0 (xs.drop 2)), by omega, Gw.nil _ _ _ _ _, Below.refl _ _⟩
    case round =>
      obtain ⟨k, q, hk, rfl, rfl, HQ, hq, hGw, hB⟩ := hrel
      obtain ⟨a7, c7, e7, -, -⟩ := hGw.slice
      subst e7
      rw [mnV_len] at hGw ⊢
      by_cases hkn : k < N
      rotate_left
      · have hkN : k = N := by omega
        have HAT : Hid (q = flU xs) := by show _ = _; rw [HQ.out, HF2.out, hkN]
        have HGF : Hid (Gw FtE 49 g (fun k => g ≤ k) wr (.slice a7 k c7) (ofV xs)) := by
          show Gw _ _ _ _ _ _ _
          rw [HF1.out, ← hkN]
          exact hGw
        have hKX := HNX.out
        clear hGw HNX hkn HQ
        by_cases hkm : k < n1
        · have g1 : decide ((k : Int) < (n1 : Int)) = true := decide_eq_true (by omega)
          have g2 : decide ((k : Int) ≤ 10) = false := decide_eq_false (by omega)
          have g1n : decide (k < n1) = true := decide_eq_true hkm
          have g2n : decide (k ≤ 10) = false := decide_eq_false (by omega)
          clear hkN hKX
          go_wp2_with fail
          go_meet
          exact ⟨by rw [← HAT.out], HGF, hB⟩
        · have g1 : decide ((k : Int) < (n1 : Int)) = false := decide_eq_false (by omega)
          have g1n : decide (k < n1) = false := decide_eq_false hkm
          clear hkN hKX
          go_wp2_with fail
          go_meet
          exact ⟨by rw [← HAT.out], HGF, hB⟩
      have g1 : decide ((k : Int) < (n1 : Int)) = true := decide_eq_true (by omega)
      have g2 : decide ((k : Int) ≤ 10) = true := decide_eq_true (by omega)
      have g1n : decide (k < n1) = true := decide_eq_true (by omega)
      have g2n : decide (k ≤ 10) = true := decide_eq_true (by omega)
      obtain ⟨hs1, hs2⟩ := mnV_succ (f := ftV) (u := ftU) k (xs.drop 2)
      rw [List.drop_drop, ← HQ.out] at hs1 hs2
      obtain ⟨he1, he2⟩ := ftV_at xs q
      rw [he1] at hs1
      have hm := HFM.out (k + 1)
      have HQ2 : Hid (q + 4 + nlU (xs.drop (q + 4)) = 2 + mnU ftU (k + 1) (xs.drop 2)) := by show _ = _; rw [← he2, hs2, ← Nat.add_assoc, ← HQ.out]
      have hq2 : q + 4 + nlU (xs.drop (q + 4)) ≤ 1000 := by have := HQ2.out; omega
      have HS1 : Hid (_) := hs1
      have HSZ : Hid ((tgV xs (q : Int)).size ≤ maxLen) := tgV_szF (by omega) _
      have HNL : Hid ((nlV (xs.drop (q + 4))).length ≤ 11) := by show _ ≤ _; rw [nlV, lsV_len]; unfold ctV; omega
      have HLM : Hid ((mnV ftV ftU k (xs.drop 2)).length = k) := mnV_len _ _
      have HOW : Hid (∀ q, (Value.slice a7 k c7).ownBlock = some q → g ≤ q ∧ q < wr.heap.size) := fun q e => hGw.lo e
      have ht := fun U (hr : Rb U a cap xs) => stag_any a cap xs (q : Int) U hr ⟨by omega, by omega⟩ (by omega)
      have hso : ∀ U, Rb U a cap xs → Calls Try.prog 51 #[.slice a xs.length cap, .int .i64 ((q : Int) + 4)] U fun e w' => ∃ a' c', e = .returned (.tuple #[.slice a' (nlV (xs.drop (q + 4))).length c', .int .i64 ((q + 4 + nlU (xs.drop (q + 4)) : Nat) : Int)]) ∧ El.int.row.rep (fun k => U.heap.size ≤ k) w' [.slice a' (nlV (xs.drop (q + 4))).length c'] (nlV (xs.drop (q + 4))) ∧ Below U.heap.size U w' := fun U hr => ssome22_any a cap xs (q + 4) U hr (by omega)
      obtain ⟨M, hM⟩ : ∃ M, mnV ftV ftU k (xs.drop 2) = M := ⟨_, rfl⟩
      rw [hM] at hGw HS1 HLM
      generalize nlV (xs.drop (q + 4)) = nl at *
      generalize tgV xs (q : Int) = tg at *
      generalize tgB xs (q : Int) = tb at *
      generalize q + 4 + nlU (xs.drop (q + 4)) = q5 at *
      have HGW : Hid (Gw FtE 49 g (fun k => g ≤ k) wr (.slice a7 k c7) M) := hGw
      have HB0 : Hid (Below w.heap.size w wr) := hB
      have HRX : Hid (∀ U, Below wr.heap.size wr U → Rb U a cap xs) := fun U hU => (HX.out.below HB0.out).below hU
      clear hs1 hs2 he1 he2 hm hM HQ hGw hB
      obtain ⟨V0, hV0, XF, hb0⟩ : ∃ V, V = wr.alloc (.cells #[.string ⟨#[]⟩, .slice none 0 0] 49) ∧ Bk 49 V wr.heap.size [.string ⟨#[]⟩, .slice none 0 0] ∧ Below wr.heap.size wr V := ⟨_, rfl, Bk.new _ _ _, bl1 _⟩
      obtain ⟨gt, hgt⟩ : ∃ g, wr.heap.size = g := ⟨_, rfl⟩
      have HGT : Hid (wr.heap.size = gt) := hgt
      go_upto_region 8 with fail
      rw [← hV0]
      rw [hgt] at XF
      try rw [hgt]
      clear hV0 hgt
      go_wp2_with fail
      refine (ht _ (HRX.out _ hb0)).mono ?_
      rintro e y1 ⟨rfl, hb1⟩
      replace XF := XF.below hb1
      replace hb0 := hb0.trans (hb1.mono hb0.size)
      clear ht hb1
      obtain ⟨c0, c1, f0, f1⟩ := XF.two
      have hy2 : Below wr.heap.size wr (y1.setCell ⟨gt, 0, none⟩ (.string tg)) := hb0.setCell (p := ⟨gt, 0, none⟩) (Nat.le_of_eq HGT.out) _
      have X2 := XF.set 0 (.string tg)
      obtain ⟨Y2, hY2⟩ : ∃ Y, y1.setCell ⟨gt, 0, none⟩ (.string tg) = Y := ⟨_, rfl⟩
      rw [hY2] at hy2 X2
      replace X2 : Bk 49 Y2 gt [.string tg, .slice none 0 0] := X2
      clear hb0 XF
      go_upto_region 9 with fail
      try rw [hY2]
      clear hY2 c0 c1 f0 f1
      go_wp2_with fail
      refine (hso _ (HRX.out _ hy2)).mono ?_
      rintro e y3 ⟨la, lc, rfl, hrow, hb3⟩
      have hlt2 := X2.lt
      replace X2 := X2.below hb3
      replace hy2 := hy2.trans (hb3.mono hy2.size)
      clear hso
      obtain ⟨c0, c1, f0, f1⟩ := X2.two
      have hy4 : Below wr.heap.size wr (y3.setCell ⟨gt, 1, none⟩ (.slice la nl.length lc)) := hy2.setCell (p := ⟨gt, 1, none⟩) (Nat.le_of_eq HGT.out) _
      have X4 := X2.set 1 (.slice la nl.length lc)
      have hrow4 : El.int.row.rep (fun k => wr.heap.size ≤ k) (y3.setCell ⟨gt, 1, none⟩ (.slice la nl.length lc)) [.slice la nl.length lc] nl := El.int.row.stay hrow (by simp [World.setCell]) (fun k hk hlt => ⟨by have := HGT.out; omega, by
        have hne : k ≠ gt := by omega
        rw [Below.heap_setCell _ _ _ _ (fun e => hne e)]⟩)
      obtain ⟨Y4, hY4⟩ : ∃ Y, y3.setCell ⟨gt, 1, none⟩ (.slice la nl.length lc) = Y := ⟨_, rfl⟩
      rw [hY4] at hy4 X4 hrow4
      replace X4 : Bk 49 Y4 gt [.string tg, .slice la nl.length lc] := X4
      clear hy2 X2 hrow hb3 hlt2
      go_upto_region 10 with fail
      try rw [hY4]
      clear hY4 c0 c1 f0 f1
      obtain ⟨c0, c1, -⟩ := X4.two
      obtain ⟨V9, hV9, Y9, hb9⟩ : ∃ W, W = Y4.alloc (.cells #[.string tg, .slice la nl.length lc] 49) ∧ Bk 49 W Y4.heap.size [.string tg, .slice la nl.length lc] ∧ Below Y4.heap.size Y4 W := ⟨_, rfl, Bk.new _ _ _, bl1 _⟩
      have hrep : FtE.rep (fun k => wr.heap.size ≤ k) Y4 [.string tg, .slice la nl.length lc] ⟨tg, nl⟩ := FtE_rep.2 ⟨la, lc, rfl, HSZ.out, hrow4⟩
      have hrep2 := FtE.stay hrep hb9.size (S' := fun q => g ≤ q ∧ (Value.slice a7 k c7).ownBlock ≠ some q) (fun q hq hl => ⟨⟨by have h1 := HB0.out.size; have h2 := HG.out; omega, fun e => by have := (HOW.out q e).2; omega⟩, hb9.block q hl⟩)
      have hone := Gr.one (E := FtE) hrep2 Y9.lt (fun j hj => Y9.cell j hj)
      have hGb := (HGW.out.below hy4).below hb9
      have hs4 := hy4.size
      have hs9 := hb9.size
      have hbs : g ≤ V9.heap.size := by have h1 := HB0.out.size; have h2 := HG.out; omega
      have hll : M.length + 1 ≤ 1000000 := by have := HLM.out; omega
      have hBb : Below w.heap.size w V9 := HB0.out.trans ((hy4.trans (hb9.mono hs4)).mono HB0.out.size)
      clear hrep hrep2 hrow4 X4 hy4
      go_wp2_with (at_builtin; rw [← hV9]; refine wpList_append_el (E := FtE) 22 49 Try.underlying22 info_ftF rfl (by decide) (by decide) rfl _ _ rfl g (fun k => g ≤ k) _ M rfl hGb (some ⟨Y4.heap.size, 0, none⟩) 1 1 [⟨tg, nl⟩] rfl rfl hone hll hbs ?_)
      intro v9 w9 hT9 hgrow _
      try rw [← hV9] at hgrow
      rw [← HS1.out] at hT9
      have hB9 : Below w.heap.size w w9 := hBb.grown hgrow hBb.size (fun q hq => by rw [HG.out]; exact (HOW.out q hq).1)
      clear hgrow hGb hone hbs hll hV9 Y9 hb9 hBb HOW HS1 HLM HGW HB0 HRX c0 c1 hs4 hs9 HSZ HNL
      go_wp2
      go_roundw
      case rel => exact ⟨k + 1, q5, by omega, rfl, by go_num, HQ2, hq2, hT9, hB9⟩
      case measure => simp [intOf]; omega
  case rest =>
  obtain ⟨rfl, HGF, hBz⟩ := hcut
  have HBW : Hid (Below w.heap.size w wc) := hBz
  obtain ⟨fa, fc, ef, hgrF⟩ := HGF.out.repF (by rw [HF1.out, mnV_len]; omega)
  subst ef
  have HFR : Hid (FtE.row.rep (fun k => g ≤ k) wc [.slice fa (ofV xs).length fc] (ofV xs)) := hgrF
  have HO1 : Hid (osV xs = mnV swV swU (ctV 6 (xs.drop (flU xs))) (xs.drop (flU xs + 2))) := by show _ = _; rw [osV, slV, lsV, List.drop_drop]
  have HOM : Hid (∀ k, mnU swU k (xs.drop (flU xs + 2)) ≤ 58 * k) := fun k => mnU_le (m := 58) swU_le k _
  have HCT : Hid (ctV 6 (xs.drop (flU xs)) = min (hd2 (xs.drop (flU xs))) 7) := rfl
  clear HGF hgrF HF1 HF2 HFM HNX hn6 hN1 hN2 hBz
  generalize flU xs = F at *
  have hn6 := hd2_ltF (HX.out.lim.drop F)
  have hu := su16_any a cap xs (F : Int) wc (HX.out.below HBW.out) ⟨by omega, by omega⟩
  rw [nmV_hd2] at hu
  obtain ⟨n2, hn2⟩ : ∃ n, hd2 (xs.drop F) = n := ⟨_, rfl⟩
  obtain ⟨N2, hN2⟩ : ∃ N, ctV 6 (xs.drop F) = N := ⟨_, rfl⟩
  rw [hn2] at hu hn6 HCT
  rw [hN2] at HO1 HCT
  have hNN : N2 ≤ n2 ∧ N2 ≤ 7 := by have := HCT.out; omega
  obtain ⟨hM1, hM2⟩ := hNN
  have HNX : Hid (¬ (N2 < n2 ∧ N2 ≤ 6)) := fun h => by have := HCT.out; omega
  generalize inB xs.length (F : Int) 2 = th1 at hu
  obtain ⟨G, hGG⟩ : ∃ g, wc.heap.size = g := ⟨_, rfl⟩
  have HGG : Hid (wc.heap.size = G) := hGG
  clear hn2 hN2 HCT hGG
  go_wp2_with fail
  refine hu.mono ?_
  rintro e u5 ⟨rfl, rfl⟩
  clear hu
  go_upto_block 2 with fail
  go_cut [11, 15] from 16 to 140 (fun s11 s15 wx => (∃ z : Int, s11 = .int .i64 z) ∧ Hid (Gw SwE 53 G (fun k => G ≤ k) wx s15 (osV xs)) ∧ Below wc.heap.size wc wx)
  case first =>
    go_wp2_with fail
    go_loopw [11, 15, 16] (fun pv v i wr => ∃ (k q : Nat), k ≤ N2 ∧ pv = .int .i64 (q : Int) ∧ i = .int .i64 (k : Int) ∧ Hid (q = F + 2 + mnU swU k (xs.drop (F + 2))) ∧ q ≤ 1000 ∧ Gw SwE 53 G (fun k => G ≤ k) wr v (mnV swV swU k (xs.drop (F + 2))) ∧ Below wc.heap.size wc wr) (fun _ _ i _ => N2 - (intOf i).toNat)
    case atStart => exact ⟨0, F + 2, Nat.zero_le _, by go_num, rfl, (rfl : F + 2 = F + 2 + mnU swU 0 (xs.drop (F + 2))), by omega, Gw.nil _ _ _ _ _, Below.refl _ _⟩
    case round =>
      obtain ⟨k, q, hk, rfl, rfl, HQ, hq, hGw, hB⟩ := hrel
      obtain ⟨a7, c7, e7, -, -⟩ := hGw.slice
      subst e7
      rw [mnV_len] at hGw ⊢
      by_cases hkn : k < N2
      rotate_left
      · have hkN : k = N2 := by omega
        have HGF : Hid (Gw SwE 53 G (fun k => G ≤ k) wr (.slice a7 k c7) (osV xs)) := by
          show Gw _ _ _ _ _ _ _
          rw [HO1.out, ← hkN]
          exact hGw
        have hKX := HNX.out
        clear hGw HNX hkn HQ
        by_cases hkm : k < n2
        · have g1 : decide ((k : Int) < (n2 : Int)) = true := decide_eq_true (by omega)
          have g2 : decide ((k : Int) ≤ 6) = false := decide_eq_false (by omega)
          have g1n : decide (k < n2) = true := decide_eq_true hkm
          have g2n : decide (k ≤ 6) = false := decide_eq_false (by omega)
          clear hkN hKX
          go_wp2_with fail
          go_meet
          exact ⟨⟨_, rfl⟩, HGF, hB⟩
        · have g1 : decide ((k : Int) < (n2 : Int)) = false := decide_eq_false (by omega)
          have g1n : decide (k < n2) = false := decide_eq_false hkm
          clear hkN hKX
          go_wp2_with fail
          go_meet
          exact ⟨⟨_, rfl⟩, HGF, hB⟩
      have g1 : decide ((k : Int) < (n2 : Int)) = true := decide_eq_true (by omega)
      have g2 : decide ((k : Int) ≤ 6) = true := decide_eq_true (by omega)
      have g1n : decide (k < n2) = true := decide_eq_true (by omega)
      have g2n : decide (k ≤ 6) = true := decide_eq_true (by omega)
      obtain ⟨hs1, hs2⟩ := mnV_succ (f := swV) (u := swU) k (xs.drop (F + 2))
      rw [List.drop_drop, ← HQ.out] at hs1 hs2
      have hcu := csU_le (xs.drop q)
      obtain ⟨z, hz⟩ : ∃ z, z = q + csU (xs.drop q) := ⟨_, rfl⟩
      obtain ⟨he1, he2⟩ := swV_at xs q z hz
      rw [he1] at hs1
      have hm := HOM.out (k + 1)
      have HQ2 : Hid (z + 2 + nlU (xs.drop (z + 2)) = F + 2 + mnU swU (k + 1) (xs.drop (F + 2))) := by show _ = _; rw [← he2, hs2, ← Nat.add_assoc, ← HQ.out]
      have hq2 : z + 2 + nlU (xs.drop (z + 2)) ≤ 1000 := by have := HQ2.out; omega
      have HS1 : Hid (_) := hs1
      have HNL : Hid ((nlV (xs.drop (z + 2))).length ≤ 11) := by show _ ≤ _; rw [nlV, lsV_len]; unfold ctV; omega
      have HLM : Hid ((mnV swV swU k (xs.drop (F + 2))).length = k) := mnV_len _ _
      have HOW : Hid (∀ q, (Value.slice a7 k c7).ownBlock = some q → G ≤ q ∧ q < wr.heap.size) := fun q e => hGw.lo e
      have HFT : Hid (I64 (nuV (xs.drop z))) := by have := nuV_b HX.out.lim z; exact ⟨by omega, by omega⟩
      have hu3 := fun U (hr : Rb U a cap xs) => su16_any a cap xs (q : Int) U hr ⟨by omega, by omega⟩
      have hu4 := fun U (hr : Rb U a cap xs) => su16_any a cap xs (z : Int) U hr ⟨by omega, by omega⟩
      simp only [nmV_hd2] at hu3 hu4
      have HNV : Hid (((hd2 (xs.drop z) : Nat) : Int) = nuV (xs.drop z)) := rfl
      rw [HNV.out] at hu4
      have hso : ∀ U, Rb U a cap xs → Calls Try.prog 51 #[.slice a xs.length cap, .int .i64 ((z : Int) + 2)] U fun e w' => ∃ a' c', e = .returned (.tuple #[.slice a' (nlV (xs.drop (z + 2))).length c', .int .i64 ((z + 2 + nlU (xs.drop (z + 2)) : Nat) : Int)]) ∧ El.int.row.rep (fun k => U.heap.size ≤ k) w' [.slice a' (nlV (xs.drop (z + 2))).length c'] (nlV (xs.drop (z + 2))) ∧ Below U.heap.size U w' := fun U hr => ssome22_any a cap xs (z + 2) U hr (by omega)
      have HCV : Hid (csV (xs.drop q) = mnV cnV six_ (ctV 4 (xs.drop q)) (xs.drop (q + 2))) := by show _ = _; rw [csV, lsV, List.drop_drop]
      have HCU : Hid (z = q + 2 + 6 * ctV 4 (xs.drop q)) := by show _ = _; rw [hz, csU, lsU, mnU_six]; omega
      have HST : Hid (∀ j, mnV cnV six_ (j + 1) (xs.drop (q + 2)) = mnV cnV six_ j (xs.drop (q + 2)) ++ [cnV (xs.drop (q + 2 + 6 * j))]) := fun j => by
        have h := (mnV_succ (f := cnV) (u := six_) j (xs.drop (q + 2))).1
        rw [mnU_six, List.drop_drop] at h
        exact h
      have HCT : Hid (ctV 4 (xs.drop q) = min (hd2 (xs.drop q)) 5) := rfl
      have hn8 := hd2_ltF (HX.out.lim.drop q)
      obtain ⟨n3, hn3⟩ : ∃ n, hd2 (xs.drop q) = n := ⟨_, rfl⟩
      obtain ⟨NC, hNC⟩ : ∃ N, ctV 4 (xs.drop q) = N := ⟨_, rfl⟩
      rw [hn3] at hu3 hn8 HCT
      rw [hNC] at HCV HCU HCT
      have hNN : NC ≤ n3 ∧ NC ≤ 5 := by have := HCT.out; omega
      obtain ⟨hC1, hC2⟩ := hNN
      have HCX : Hid (¬ (NC < n3 ∧ NC ≤ 4)) := fun h => by have := HCT.out; omega
      have HCL : Hid ((csV (xs.drop q)).length = NC) := by show _ = _; rw [HCV.out, mnV_len]
      obtain ⟨cn, hcn⟩ : ∃ c, csV (xs.drop q) = c := ⟨_, rfl⟩
      rw [hcn] at HS1 HCV HCL
      obtain ⟨M, hM⟩ : ∃ M, mnV swV swU k (xs.drop (F + 2)) = M := ⟨_, rfl⟩
      rw [hM] at hGw HS1 HLM
      generalize nlV (xs.drop (z + 2)) = nl at *
      generalize nuV (xs.drop z) = ft at *
      generalize z + 2 + nlU (xs.drop (z + 2)) = q5 at *
      generalize inB xs.length (q : Int) 2 = th3 at hu3
      generalize inB xs.length (z : Int) 2 = th4 at hu4
      have HGW : Hid (Gw SwE 53 G (fun k => G ≤ k) wr (.slice a7 k c7) M) := hGw
      have HB0 : Hid (Below wc.heap.size wc wr) := hB
      have HRX : Hid (∀ U, Below wr.heap.size wr U → Rb U a cap xs) := fun U hU => ((HX.out.below HBW.out).below HB0.out).below hU
      have HQZ : Hid (q ≤ 1000 ∧ z ≤ 1100) := ⟨hq, by omega⟩
      clear hs1 hs2 he1 he2 hm hM HQ hGw hB hz hcu HNV hn3 hNC HCT hcn
      obtain ⟨V0, hV0, XF, hb0⟩ : ∃ V, V = wr.alloc (.cells #[.slice none 0 0, .int .i64 0, .slice none 0 0] 53) ∧ Bk 53 V wr.heap.size [.slice none 0 0, .int .i64 0, .slice none 0 0] ∧ Below wr.heap.size wr V := ⟨_, rfl, Bk.new _ _ _, bl1 _⟩
      obtain ⟨gt, hgt⟩ : ∃ g, wr.heap.size = g := ⟨_, rfl⟩
      have HGT : Hid (wr.heap.size = gt) := hgt
      go_upto_region 18 with fail
      rw [← hV0]
      rw [hgt] at XF
      try rw [hgt]
      clear hV0 hgt
      go_wp2_with fail
      refine (hu3 _ (HRX.out _ hb0)).mono ?_
      rintro e y1 ⟨rfl, rfl⟩
      clear hu3
      go_upto_block 4 with fail
      go_cut [11, 20, 21] from 65 to 140 (fun s11 s20 s21 wx => s11 = .int .i64 ((z : Nat) : Int) ∧ (∃ xa xc, Hid (Bk 53 wx gt [.slice xa cn.length xc, .int .i64 0, .slice none 0 0]) ∧ Hid (CnE.row.rep (fun k => gt + 1 ≤ k) wx [.slice xa cn.length xc] cn)) ∧ Below wr.heap.size wr wx)
      case first =>
        go_wp2_with fail
        go_loopw [11, 20] (fun pv i wy => ∃ (j z9 : Nat) (v : Value) (R : List Cn), j ≤ NC ∧ pv = .int .i64 (z9 : Int) ∧ i = .int .i64 (j : Int) ∧ Hid (z9 = q + 2 + 6 * j) ∧ z9 ≤ 1100 ∧ Hid (R = mnV cnV six_ j (xs.drop (q + 2))) ∧ Bk 53 wy gt [v, .int .i64 0, .slice none 0 0] ∧ Gw CnE 46 (gt + 1) (fun k => gt + 1 ≤ k) wy v R ∧ Below wr.heap.size wr wy) (fun _ i _ => NC - (intOf i).toNat)
        case atStart => exact ⟨0, q + 2, _, [], Nat.zero_le _, by go_num, rfl, (rfl : q + 2 = q + 2 + 6 * 0), by have := HQZ.out; omega, (rfl : [] = mnV cnV six_ 0 (xs.drop (q + 2))), XF, Gw.nil _ _ _ _ _, hb0⟩
        case round =>
          clear XF hb0
          rename World => wy
          obtain ⟨j, z9, v, R, hj, rfl, rfl, HZ, hz9, HR, XS, hGc, hB⟩ := hrel
          obtain ⟨a8, c8, e8, -, -⟩ := hGc.slice
          subst e8
          have HRL : Hid (R.length = j) := by show _ = _; rw [HR.out, mnV_len]
          by_cases hjn : j < NC
          rotate_left
          · have hjN : j = NC := by omega
            have HAT : Hid (z9 = z) := by show _ = _; rw [HZ.out, HCU.out, hjN]
            have HRC : Hid (R = cn) := by show _ = _; rw [HR.out, HCV.out, hjN]
            have HFX : Hid (∃ xa xc, Hid (Bk 53 wy gt [.slice xa cn.length xc, .int .i64 0, .slice none 0 0]) ∧ Hid (CnE.row.rep (fun k => gt + 1 ≤ k) wy [.slice xa cn.length xc] cn)) := by
              rw [HRC.out] at hGc XS
              obtain ⟨a', c', e1, hr⟩ := hGc.repF (by rw [HCL.out]; omega)
              injection e1 with e2 e3 e4
              subst e2 e4
              exact ⟨a8, c8, XS, hr⟩
            have hKX := HCX.out
            clear hGc XS HCX hjn HZ HR
            by_cases hkm : j < n3
            · have g5 : decide ((j : Int) < (n3 : Int)) = true := decide_eq_true (by omega)
              have g6 : decide ((j : Int) ≤ 4) = false := decide_eq_false (by omega)
              have g5n : decide (j < n3) = true := decide_eq_true hkm
              have g6n : decide (j ≤ 4) = false := decide_eq_false (by omega)
              clear hjN hKX
              go_wp2_with fail
              go_meet
              exact ⟨by rw [HAT.out], HFX.out, hB⟩
            · have g5 : decide ((j : Int) < (n3 : Int)) = false := decide_eq_false (by omega)
              have g5n : decide (j < n3) = false := decide_eq_false hkm
              clear hjN hKX
              go_wp2_with fail
              go_meet
              exact ⟨by rw [HAT.out], HFX.out, hB⟩
          have g5 : decide ((j : Int) < (n3 : Int)) = true := decide_eq_true (by omega)
          have g6 : decide ((j : Int) ≤ 4) = true := decide_eq_true (by omega)
          have g5n : decide (j < n3) = true := decide_eq_true (by omega)
          have g6n : decide (j ≤ 4) = true := decide_eq_true (by omega)
          have HSN : Hid (R ++ [cnV (xs.drop z9)] = mnV cnV six_ (j + 1) (xs.drop (q + 2))) := by show _ = _; rw [HR.out, HZ.out, HST.out j]
          have HZ2 : Hid (z9 + 6 = q + 2 + 6 * (j + 1)) := by show _ = _; rw [HZ.out]; omega
          have hz92 : z9 + 6 ≤ 1100 := by have := HZ2.out; have := HCU.out; have := HQZ.out.2; omega
          have HCE := cnV_at xs z9
          rw [HCE] at HSN
          have hvb := nuV_b HX.out.lim z9
          have hvb2 := sxF_b (hd2_ltF (HX.out.lim.drop (z9 + 2)))
          have hvb3 := sxF_b (hd2_ltF (HX.out.lim.drop (z9 + 4)))
          have HMW : Hid (CnW ⟨nuV (xs.drop z9), sx16 (hd2 (xs.drop (z9 + 2))), sx16 (hd2 (xs.drop (z9 + 4)))⟩) := ⟨⟨by show _ ≤ nuV _; omega, by show nuV _ ≤ _; omega⟩, hvb2, hvb3⟩
          have hT := fun U (hr : Rb U a cap xs) => su16_any a cap xs (z9 : Int) U hr ⟨by omega, by omega⟩
          have hI1 : ∀ U, Rb U a cap xs → Calls Try.prog 52 #[.slice a xs.length cap, .int .i64 ((z9 : Int) + 2)] U fun e w' => e = .returned (.tuple #[.int .i64 (sx16 (nmV xs ((z9 + 2 : Nat) : Int) 2)), .bool (inB xs.length ((z9 + 2 : Nat) : Int) 2)]) ∧ U = w' := fun U hr => si16_any a cap xs ((z9 + 2 : Nat) : Int) U hr ⟨by omega, by omega⟩
          have hI2 : ∀ U, Rb U a cap xs → Calls Try.prog 52 #[.slice a xs.length cap, .int .i64 ((z9 : Int) + 4)] U fun e w' => e = .returned (.tuple #[.int .i64 (sx16 (nmV xs ((z9 + 4 : Nat) : Int) 2)), .bool (inB xs.length ((z9 + 4 : Nat) : Int) 2)]) ∧ U = w' := fun U hr => si16_any a cap xs ((z9 + 4 : Nat) : Int) U hr ⟨by omega, by omega⟩
          simp only [nmV_hd2] at hT hI1 hI2
          have HNV : Hid (((hd2 (xs.drop z9) : Nat) : Int) = nuV (xs.drop z9)) := rfl
          rw [HNV.out] at hT
          have HOC : Hid (∀ q, (Value.slice a8 R.length c8).ownBlock = some q → gt + 1 ≤ q ∧ q < wy.heap.size) := fun q e => hGc.lo e
          have hgtl : gt < wy.heap.size := XS.lt
          clear HCE hvb hvb2 hvb3 HNV HR HZ
          generalize nuV (xs.drop z9) = x1 at *
          generalize sx16 (hd2 (xs.drop (z9 + 2))) = x2 at *
          generalize sx16 (hd2 (xs.drop (z9 + 4))) = x3 at *
          generalize inB xs.length (z9 : Int) 2 = t1 at hT
          generalize inB xs.length ((z9 + 2 : Nat) : Int) 2 = t2 at hI1
          generalize inB xs.length ((z9 + 4 : Nat) : Int) 2 = t3 at hI2
          have HXS : Hid (Bk 53 wy gt [.slice a8 R.length c8, .int .i64 0, .slice none 0 0]) := XS
          have HGC : Hid (Gw CnE 46 (gt + 1) (fun k => gt + 1 ≤ k) wy (.slice a8 R.length c8) R) := hGc
          have HBY : Hid (Below wr.heap.size wr wy) := hB
          have HRY : Hid (∀ U, Below wy.heap.size wy U → Rb U a cap xs) := fun U hU => HRX.out U (HBY.out.trans (hU.mono HBY.out.size))
          obtain ⟨V1, hV1, X0, hb1⟩ : ∃ V, V = wy.alloc (.cells #[.int .i64 0, .int .i64 0, .int .i64 0] 46) ∧ Bk 46 V wy.heap.size [.int .i64 0, .int .i64 0, .int .i64 0] ∧ Below wy.heap.size wy V := ⟨_, rfl, Bk.new _ _ _, bl1 _⟩
          obtain ⟨gc, hgc⟩ : ∃ g, wy.heap.size = g := ⟨_, rfl⟩
          have HGN : Hid (wy.heap.size = gc) := hgc
          clear XS hGc hB
          go_upto_region 24 with fail
          rw [← hV1]
          rw [hgc] at X0
          try rw [hgc]
          clear hV1 hgc
          go_wp2_with fail
          refine (hT _ (HRY.out _ hb1)).mono ?_
          rintro e y3 ⟨rfl, rfl⟩
          clear hT
          obtain ⟨c0, c1, c2, f0, f1, f2⟩ := X0.three
          have hy2 : Below wy.heap.size wy (V1.setCell ⟨gc, 0, none⟩ (.int .i64 x1)) := hb1.setCell (p := ⟨gc, 0, none⟩) (Nat.le_of_eq HGN.out) _
          have X2 := X0.set 0 (.int .i64 x1)
          obtain ⟨Y2, hY2⟩ : ∃ Y, V1.setCell ⟨gc, 0, none⟩ (.int .i64 x1) = Y := ⟨_, rfl⟩
          rw [hY2] at hy2 X2
          replace X2 : Bk 46 Y2 gc [.int .i64 x1, .int .i64 0, .int .i64 0] := X2
          clear hb1 X0
          go_upto_region 25 with fail
          try rw [hY2]
          clear hY2 c0 c1 c2 f0 f1 f2
          go_wp2_with fail
          refine (hI1 _ (HRY.out _ hy2)).mono ?_
          rintro e y3 ⟨rfl, rfl⟩
          clear hI1
          obtain ⟨c0, c1, c2, f0, f1, f2⟩ := X2.three
          have hy3 : Below wy.heap.size wy (Y2.setCell ⟨gc, 1, none⟩ (.int .i64 x2)) := hy2.setCell (p := ⟨gc, 1, none⟩) (Nat.le_of_eq HGN.out) _
          have X3 := X2.set 1 (.int .i64 x2)
          obtain ⟨Y3, hY3⟩ : ∃ Y, Y2.setCell ⟨gc, 1, none⟩ (.int .i64 x2) = Y := ⟨_, rfl⟩
          rw [hY3] at hy3 X3
          replace X3 : Bk 46 Y3 gc [.int .i64 x1, .int .i64 x2, .int .i64 0] := X3
          clear hy2 X2
          go_upto_region 26 with fail
          try rw [hY3]
          clear hY3 c0 c1 c2 f0 f1 f2
          go_wp2_with fail
          refine (hI2 _ (HRY.out _ hy3)).mono ?_
          rintro e y4 ⟨rfl, rfl⟩
          clear hI2
          obtain ⟨c0, c1, c2, f0, f1, f2⟩ := X3.three
          have hy4 : Below wy.heap.size wy (Y3.setCell ⟨gc, 2, none⟩ (.int .i64 x3)) := hy3.setCell (p := ⟨gc, 2, none⟩) (Nat.le_of_eq HGN.out) _
          have X4 := X3.set 2 (.int .i64 x3)
          obtain ⟨Y4, hY4⟩ : ∃ Y, Y3.setCell ⟨gc, 2, none⟩ (.int .i64 x3) = Y := ⟨_, rfl⟩
          rw [hY4] at hy4 X4
          replace X4 : Bk 46 Y4 gc [.int .i64 x1, .int .i64 x2, .int .i64 x3] := X4
          clear hy3 X3
          go_upto_region 27 with fail
          try rw [hY4]
          clear hY4 c0 c1 c2 f0 f1 f2
          obtain ⟨c0, c1, c2, -⟩ := X4.three
          have XS4 := HXS.out.below hy4
          obtain ⟨s0, s1, s2, k0, k1, k2⟩ := XS4.three
          obtain ⟨V9, hV9, Y9, hb9⟩ : ∃ V, V = Y4.alloc (.cells #[.int .i64 x1, .int .i64 x2, .int .i64 x3] 46) ∧ Bk 46 V Y4.heap.size [.int .i64 x1, .int .i64 x2, .int .i64 x3] ∧ Below Y4.heap.size Y4 V := ⟨_, rfl, Bk.new _ _ _, bl1 _⟩
          have hrep : CnE.rep (fun q => gt + 1 ≤ q ∧ (Value.slice a8 R.length c8).ownBlock ≠ some q) V9 [.int .i64 x1, .int .i64 x2, .int .i64 x3] ⟨x1, x2, x3⟩ := CnE_rep.2 ⟨rfl, HMW.out⟩
          have hone := Gr.one (E := CnE) hrep Y9.lt (fun j hj => Y9.cell j hj)
          have hGb := (HGC.out.below hy4).below hb9
          have XS9 := XS4.below hb9
          have hs4 := hy4.size
          have hs9 := hb9.size
          have hbs : gt + 1 ≤ V9.heap.size := by omega
          have hll : R.length + 1 ≤ 1000000 := by have := HRL.out; omega
          have hBb : Below wr.heap.size wr V9 := HBY.out.trans ((hy4.trans (hb9.mono hs4)).mono HBY.out.size)
          clear hrep X4 hy4 XS4
          go_wp2_with (at_builtin; rw [← hV9]; refine wpList_append_el (E := CnE) 43 46 Try.underlying43 info_cnF rfl (by decide) (by decide) rfl _ _ rfl (gt + 1) (fun k => gt + 1 ≤ k) _ R rfl hGb (some ⟨Y4.heap.size, 0, none⟩) 1 1 [⟨x1, x2, x3⟩] rfl rfl hone hll hbs ?_)
          intro v9 w9 hT9 hgrow _
          try rw [← hV9] at hgrow
          obtain ⟨R2, hR2⟩ : ∃ R2, R ++ [(⟨x1, x2, x3⟩ : Cn)] = R2 := ⟨_, rfl⟩
          rw [hR2] at hT9 HSN
          have HR2 : Hid (R2 = mnV cnV six_ (j + 1) (xs.drop (q + 2))) := HSN.out
          have XS5 := XS9.grown hgrow (fun e => by have := (HOC.out _ e).1; omega)
          have hB9 : Below wr.heap.size wr w9 := hBb.grown hgrow hBb.size (fun q hq => by have := (HOC.out q hq).1; have := HGT.out; omega)
          obtain ⟨a9, c9, e9, -, -⟩ := hT9.slice
          subst e9
          have HB6 : Hid (Below wr.heap.size wr (w9.setCell ⟨gt, 0, none⟩ (.slice a9 R2.length c9))) := hB9.setCell (p := ⟨gt, 0, none⟩) (Nat.le_of_eq HGT.out) _
          have HX6 : Hid (Bk 53 (w9.setCell ⟨gt, 0, none⟩ (.slice a9 R2.length c9)) gt [.slice a9 R2.length c9, .int .i64 0, .slice none 0 0]) := XS5.set 0 _
          have HT6 : Hid (Gw CnE 46 (gt + 1) (fun k => gt + 1 ≤ k) (w9.setCell ⟨gt, 0, none⟩ (.slice a9 R2.length c9)) (.slice a9 R2.length c9) R2) := hT9.stay (by simp [World.setCell]) (fun k h1 _ _ => ⟨h1, by
            have hne : k ≠ gt := by omega
            rw [Below.heap_setCell _ _ _ _ (fun e => hne e)]⟩) (fun k hk => by
            have h1 := (hT9.lo hk).1
            have hne : k ≠ gt := by omega
            rw [Below.heap_setCell _ _ _ _ (fun e => hne e)])
          obtain ⟨s0, s1, s2, k0, k1, k2⟩ := XS5.three
          clear hgrow hGb hone hbs hll hV9 Y9 hb9 hBb HOC HSN c0 c1 c2 hs4 hs9 hR2 XS9 XS5 hB9 hT9 HXS HGC HBY HRY HMW
          go_wp2
          go_roundw
          case rel => exact ⟨j + 1, z9 + 6, _, R2, by omega, by go_num, by go_num, HZ2, hz92, HR2, HX6.out, HT6.out, HB6.out⟩
          case measure => simp [intOf]; omega
      case rest =>
      obtain ⟨rfl, ⟨xa, xc, HXS, HRC⟩, hBy⟩ := hcut
      obtain ⟨s0, s1, s2, k0, k1, k2⟩ := HXS.out.three
      have hz11 := HQZ.out.2
      go_wp2_with fail
      refine (hu4 _ (HRX.out _ hBy)).mono ?_
      rintro e y3 ⟨rfl, rfl⟩
      clear hu4
      have hy2 := hBy.setCell (p := ⟨gt, 1, none⟩) (Nat.le_of_eq HGT.out) (.int .i64 ft)
      have X2 := HXS.out.set 1 (.int .i64 ft)
      have hrc2 : CnE.row.rep (fun k => gt + 1 ≤ k) (wc.setCell ⟨gt, 1, none⟩ (.int .i64 ft)) [.slice xa cn.length xc] cn := CnE.row.stay HRC.out (by simp [World.setCell]) (fun k hk _ => ⟨hk, by
        have hne : k ≠ gt := by omega
        rw [Below.heap_setCell _ _ _ _ (fun e => hne e)]⟩)
      obtain ⟨Y2, hY2⟩ : ∃ Y, wc.setCell ⟨gt, 1, none⟩ (.int .i64 ft) = Y := ⟨_, rfl⟩
      rw [hY2] at hy2 X2 hrc2
      replace X2 : Bk 53 Y2 gt [.slice xa cn.length xc, .int .i64 ft, .slice none 0 0] := X2
      clear HXS HRC hBy
      go_upto_region 30 with fail
      try rw [hY2]
      clear hY2 s0 s1 s2 k0 k1 k2
      go_wp2_with fail
      refine (hso _ (HRX.out _ hy2)).mono ?_
      rintro e y3 ⟨la, lc, rfl, hrow, hb3⟩
      have hlt2 := X2.lt
      replace X2 := X2.below hb3
      replace hrc2 := CnE.row.stay hrc2 hb3.size (S' := fun k => gt + 1 ≤ k) (fun k hk hl => ⟨hk, hb3.block k hl⟩)
      replace hy2 := hy2.trans (hb3.mono hy2.size)
      clear hso
      obtain ⟨s0, s1, s2, k0, k1, k2⟩ := X2.three
      have hy4 := hy2.setCell (p := ⟨gt, 2, none⟩) (Nat.le_of_eq HGT.out) (.slice la nl.length lc)
      have X4 := X2.set 2 (.slice la nl.length lc)
      have hrow4 : El.int.row.rep (fun k => wr.heap.size ≤ k) (y3.setCell ⟨gt, 2, none⟩ (.slice la nl.length lc)) [.slice la nl.length lc] nl := El.int.row.stay hrow (by simp [World.setCell]) (fun k hk hlt => ⟨by have := HGT.out; omega, by
        have hne : k ≠ gt := by omega
        rw [Below.heap_setCell _ _ _ _ (fun e => hne e)]⟩)
      have hrc4 : CnE.row.rep (fun k => wr.heap.size ≤ k) (y3.setCell ⟨gt, 2, none⟩ (.slice la nl.length lc)) [.slice xa cn.length xc] cn := CnE.row.stay hrc2 (by simp [World.setCell]) (fun k hk hlt => ⟨by have := HGT.out; omega, by
        have hne : k ≠ gt := by omega
        rw [Below.heap_setCell _ _ _ _ (fun e => hne e)]⟩)
      obtain ⟨Y4, hY4⟩ : ∃ Y, y3.setCell ⟨gt, 2, none⟩ (.slice la nl.length lc) = Y := ⟨_, rfl⟩
      rw [hY4] at hy4 X4 hrow4 hrc4
      replace X4 : Bk 53 Y4 gt [.slice xa cn.length xc, .int .i64 ft, .slice la nl.length lc] := X4
      clear hy2 X2 hrow hb3 hlt2 hrc2
      go_upto_region 31 with fail
      try rw [hY4]
      clear hY4 s0 s1 s2 k0 k1 k2
      obtain ⟨s0, s1, s2, -⟩ := X4.three
      obtain ⟨V9, hV9, Y9, hb9⟩ : ∃ W, W = Y4.alloc (.cells #[.slice xa cn.length xc, .int .i64 ft, .slice la nl.length lc] 53) ∧ Bk 53 W Y4.heap.size [.slice xa cn.length xc, .int .i64 ft, .slice la nl.length lc] ∧ Below Y4.heap.size Y4 W := ⟨_, rfl, Bk.new _ _ _, bl1 _⟩
      have hrep : SwE.rep (fun k => wr.heap.size ≤ k) Y4 [.slice xa cn.length xc, .int .i64 ft, .slice la nl.length lc] ⟨cn, ft, nl⟩ := SwE_rep.2 ⟨xa, xc, la, lc, rfl, hrc4, HFT.out, hrow4⟩
      have hrep2 := SwE.stay hrep hb9.size (S' := fun q => G ≤ q ∧ (Value.slice a7 k c7).ownBlock ≠ some q) (fun q hq hl => ⟨⟨by have h1 := HB0.out.size; have h2 := HGG.out; omega, fun e => by have := (HOW.out q e).2; omega⟩, hb9.block q hl⟩)
      have hone := Gr.one (E := SwE) hrep2 Y9.lt (fun j hj => Y9.cell j hj)
      have hGb := (HGW.out.below hy4).below hb9
      have hs4 := hy4.size
      have hs9 := hb9.size
      have hbs : G ≤ V9.heap.size := by have h1 := HB0.out.size; have h2 := HGG.out; omega
      have hll : M.length + 1 ≤ 1000000 := by have := HLM.out; omega
      have hBb := HB0.out.trans ((hy4.trans (hb9.mono hs4)).mono HB0.out.size)
      clear hrep hrep2 hrow4 hrc4 X4 hy4
      go_wp2_with (at_builtin; rw [← hV9]; refine wpList_append_el (E := SwE) 23 53 Try.underlying23 info_swF rfl (by decide) (by decide) rfl _ _ rfl G (fun k => G ≤ k) _ M rfl hGb (some ⟨Y4.heap.size, 0, none⟩) 1 1 [⟨cn, ft, nl⟩] rfl rfl hone hll hbs ?_)
      intro v9 w9 hT9 hgrow _
      try rw [← hV9] at hgrow
      rw [← HS1.out] at hT9
      have hB9 := hBb.grown hgrow hBb.size (fun q hq => by rw [HGG.out]; exact (HOW.out q hq).1)
      clear hgrow hGb hone hbs hll hV9 Y9 hb9 hBb HOW HS1 HLM HGW HB0 HRX s0 s1 s2 hs4 hs9 HNL HFT HST HCX HCV HCU HCL HQZ
      go_wp2
      go_roundw
      case rel => exact ⟨k + 1, q5, by omega, rfl, by go_num, HQ2, hq2, hT9, hB9⟩
      case measure => simp [intOf]; omega
  case rest =>
  obtain ⟨⟨z0, rfl⟩, HGS, hBz⟩ := hcut
  obtain ⟨sa, sc, es, hrS⟩ := HGS.out.repF (by rw [HO1.out, mnV_len]; omega)
  subst es
  have hgG : g ≤ G := by have h1 := HBW.out.size; have h2 := HG.out; have h3 := HGG.out; omega
  have HSR : Hid (SwE.row.rep (fun k => w.heap.size ≤ k) wc [.slice sa (osV xs).length sc] (osV xs)) := SwE.row.stay hrS (Nat.le_refl _) (fun k hk _ => ⟨by rw [HG.out]; exact Nat.le_trans hgG hk, rfl⟩)
  have HFR2 : Hid (FtE.row.rep (fun k => w.heap.size ≤ k) wc [.slice fa (ofV xs).length fc] (ofV xs)) := FtE.row.stay HFR.out hBz.size (fun k hk hl => ⟨by rw [HG.out]; exact hk, hBz.block k hl⟩)
  have hfin0 := HBW.out.trans (hBz.mono HBW.out.size)
  have hRX : Rb wc a cap xs := (HX.out.below HBW.out).below hBz
  have hwr := swrite22_any (fun k => w.heap.size ≤ k) fa fc (ofV xs) sa sc (osV xs) n ax wc (rowF_rep HFR2.out).1 (rowF_rep HSR.out).1
  have hk1 := (rowF_rep HFR2.out).1.lenB
  have hk2 := (rowF_rep HSR.out).1.lenB
  clear HGS hrS HFR HO1 HOM HNX HGG hgG hBz hn6 hM1 hM2
  generalize ofV xs = fl at *
  generalize osV xs = sl at *
  have HNO2 : Hid (¬ (wrFE fl sl n ax = 0 ∧ wrFB fl sl n ax = xs) → rdFE xs n ax = 2 ∧ rdFL xs n ax = [] ∧ rdFS xs n ax = []) := fun h => HNO.out (fun h2 => h (HWR.out.1 h2))
  have HYE2 : Hid ((wrFE fl sl n ax = 0 ∧ wrFB fl sl n ax = xs) → rdFE xs n ax = 0 ∧ rdFL xs n ax = fl ∧ rdFS xs n ax = sl) := fun h => HYE.out (HWR.out.2 h)
  clear HNO HYE HWR
  generalize wrFE fl sl n ax = we at *
  generalize wrFB fl sl n ax = wb at *
  by_cases he : we = 0
  rotate_left
  · have HN : Hid (_) := HNO2.out (fun h => he h.1)
    have g1 : (we != 0) = true := bne_iff_ne.2 he
    clear HNO2 HYE2 he
    go_wp2_with fail
    refine hwr.mono ?_
    rintro e y1 ⟨a1, c1, rfl, hr1, hb1⟩
    have hfin := hfin0.trans (hb1.mono hfin0.size)
    clear hwr hb1 hr1
    go_wp2
    go_ret3
    exact ⟨none, 0, none, 0, by rw [HN.out.1, HN.out.2.1, HN.out.2.2]; rfl, by rw [HN.out.2.1]; exact HNF.out _, by rw [HN.out.2.2]; exact HNS.out _, hfin⟩
  have HNO3 : Hid (¬ xs = wb → rdFE xs n ax = 2 ∧ rdFL xs n ax = [] ∧ rdFS xs n ax = []) := fun h => HNO2.out (fun h2 => h h2.2.symm)
  have HYE3 : Hid (xs = wb → rdFE xs n ax = 0 ∧ rdFL xs n ax = fl ∧ rdFS xs n ax = sl) := fun h => HYE2.out ⟨he, h.symm⟩
  clear HNO2 HYE2
  subst he
  go_wp2_with fail
  refine hwr.mono ?_
  rintro e y1 ⟨a1, c1, rfl, hr1, hb1⟩
  have hrd1 := hr1.rd
  have heq := same8g_any a a1 cap c1 xs wb y1 (hRX.below hb1) hrd1
  have k7 := hrd1.le
  have k8 := hrd1.cap
  unfold maxLen at k8
  have HF3 : Hid (FtE.row.rep (fun k => w.heap.size ≤ k) y1 [.slice fa fl.length fc] fl) := FtE.row.stay HFR2.out hb1.size (fun k hk hl => ⟨hk, hb1.block k hl⟩)
  have HS3 : Hid (SwE.row.rep (fun k => w.heap.size ≤ k) y1 [.slice sa sl.length sc] sl) := SwE.row.stay HSR.out hb1.size (fun k hk hl => ⟨hk, hb1.block k hl⟩)
  have hfin1 := hfin0.trans (hb1.mono hfin0.size)
  clear hwr hr1 hb1 hrd1 hRX hfin0 HFR2 HSR
  by_cases hwx : xs = wb
  · rw [decide_eq_true hwx] at heq
    have HY : Hid (_) := HYE3.out hwx
    clear HNO3 HYE3 hwx
    generalize wb.length = m at *
    go_wp2_with fail
    refine heq.mono ?_
    rintro e y2 ⟨rfl, hb2⟩
    have HF4 : Hid (FtE.row.rep (fun k => w.heap.size ≤ k) y2 [.slice fa fl.length fc] fl) := FtE.row.stay HF3.out hb2.size (fun k hk hl => ⟨hk, hb2.block k hl⟩)
    have HS4 : Hid (SwE.row.rep (fun k => w.heap.size ≤ k) y2 [.slice sa sl.length sc] sl) := SwE.row.stay HS3.out hb2.size (fun k hk hl => ⟨hk, hb2.block k hl⟩)
    have hfin2 := hfin1.trans (hb2.mono hfin1.size)
    clear heq hb2
    go_wp2
    go_ret3
    exact ⟨fa, fc, sa, sc, by rw [HY.out.1, HY.out.2.1, HY.out.2.2]; rfl, by rw [HY.out.2.1]; exact HF4.out, by rw [HY.out.2.2]; exact HS4.out, hfin2⟩
  · rw [decide_eq_false hwx] at heq
    have HN : Hid (_) := HNO3.out hwx
    clear HNO3 HYE3 hwx
    generalize wb.length = m at *
    go_wp2_with fail
    refine heq.mono ?_
    rintro e y2 ⟨rfl, hb2⟩
    have hfin2 := hfin1.trans (hb2.mono hfin1.size)
    clear heq hb2
    go_wp2
    go_ret3
    exact ⟨none, 0, none, 0, by rw [HN.out.1, HN.out.2.1, HN.out.2.2]; rfl, by rw [HN.out.2.1]; exact HNF.out _, by rw [HN.out.2.2]; exact HNS.out _, hfin2⟩

end Go.Proofs.Ytaejlopkdkaphaa
