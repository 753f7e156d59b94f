/-
  foundrylaw11.PackedShort: the walk.
-/
import Derived.Test.YtngkckannclcmaaZ7
import Derived.Test.YtngkckannclcmaaZ11
namespace Go.Proofs.Ytngkckannclcmaa
open Go.RowKit Go.Maps
set_option linter.unusedSimpArgs false
set_option linter.unusedVariables false

theorem Ri.made (w : World) (k : Nat) (e : TypeId) (hk : k ≤ 1000000) : Ri (w.alloc (.cells (madeCells #[.int .i64 0] k) e)) (some ⟨w.heap.size, 0, none⟩) k (List.replicate k 0) := by
  refine ⟨fun z hz => by rw [(List.mem_replicate.1 hz).2]; exact ⟨by decide, by decide⟩, by simp, by unfold maxLen; omega, .inr ⟨w.heap.size, 0, rfl, by simp, fun i hi => ?_⟩⟩
  rw [List.length_replicate] at hi
  have := cell_of_row _ w.heap.size i _ _ (0, 0) (heap_alloc_new w (.cells (madeCells #[.int .i64 0] k) e))
  rw [Nat.zero_add, this]
  simp [madeCells, List.getD, hi, Nat.mod_one]
set_option maxHeartbeats 8000000 in
set_option maxRecDepth 100000 in
theorem packedShort_any (C : CodP) (a : Option Addr) (ca : Nat) (zs : List Int) (n : Nat) (w : World) (hz : Rh w a ca zs) (hn : n < 65536) :
    Calls Try.prog 7 #[.slice a zs.length ca, .int .u16 (n : Int)] w fun e w' => e = .returned (.bool true) ∧ Below w.heap.size w w' := by
  have k1 := hz.lenB
  have HZ : Hid (Rh w a ca zs) := hz
  have hbW : Below w.heap.size w w := Below.refl _ _
  go_enter Try.func7, Try.ntmps7
  go_wp2_with fail
  refine (awake11_any C _).mono ?_
  rintro e t1 ⟨rfl, hb1⟩
  replace hz := hz.below hb1
  replace hbW : Below w.heap.size w t1 := hbW.trans (hb1.mono hbW.size)
  clear hb1 
  by_cases h1 : 2000 < zs.length
  · have g1 : (2000 : Int) < (zs.length : Int) := by omega
    go_wp2_with fail
    refine (awake11_any C _).mono ?_
    rintro e v9 ⟨rfl, hb9⟩
    replace hbW := hbW.trans (hb9.mono hbW.size)
    clear hb9
    go_wp2
    go_ret
    exact ⟨rfl, hbW⟩
  have g1 : ¬ (2000 : Int) < (zs.length : Int) := by omega
  have hl2 : zs.length ≤ 2000 := by omega
  clear hz
  go_wp2
  go_loopw [5, 6] (fun v ii wr => ∃ k : Nat, k ≤ zs.length ∧ ii = .int .i64 (k : Int) ∧ Io w.heap.size wr v (zs.take k) ∧ Below w.heap.size w wr) (fun _ ii _ => zs.length - (intOf ii).toNat)
  case atStart => exact ⟨0, Nat.zero_le _, rfl, by rw [List.take_zero]; exact Io.nil _ _, hbW⟩
  case round =>
    clear hbW
    obtain ⟨k, hk, rfl, hIo, hbW⟩ := hrel
    obtain ⟨a2, c2, rfl, hri⟩ := hIo.slice
    have hlk : (zs.take k).length = k := by rw [List.length_take]; omega
    rw [hlk] at hIo ⊢
    by_cases hkn : k < zs.length
    · obtain ⟨b, off, ea, _, d0⟩ := HZ.out.at hbW k hkn
      have hin := HZ.out.in hkn
      subst ea
      have HS : Hid (zs.take (k + 1) = zs.take k ++ [zs.getD k 0]) := by
        show _ = _
        rw [List.take_add_one, List.getElem?_eq_getElem hkn]
        simp [List.getD, hkn]
      obtain ⟨x, hx⟩ : ∃ x, zs.getD k 0 = x := ⟨_, rfl⟩
      rw [hx] at d0 hin HS
      have hxi : I64 x := ⟨by omega, by omega⟩
      have hwx : IntKind.i64.wrap x = x := wrapi64' (by omega) (by omega)
      have hll : (zs.take k).length + 1 ≤ 1000000 := by rw [hlk]; omega
      have hIo5 := hIo.below (bl1 (.cells #[.int .i64 x] 3))
      have hN := heap_alloc_new wr (.cells #[.int .i64 x] 3)
      have n0 := cell_of_row _ wr.heap.size 0 _ _ (0, 0) hN
      have hbs : w.heap.size ≤ (wr.alloc (.cells #[.int .i64 x] 3)).heap.size := Nat.le_trans hbW.size (bl1 _).size
      clear hN hx hri hlk
      go_wp2_with (at_builtin; refine wpList_append_int rfl _ _ rfl w.heap.size _ (zs.take k) rfl hIo5 wr.heap.size x rfl n0 hxi hll hbs ?_)
      intro v' w9 hI9 hgrow
      have hB9 : Below w.heap.size w w9 := (hbW.alloc hbW.size _).grown hgrow hbs (fun k hk => hIo.lo hk)
      rw [← HS.out] at hI9
      clear hgrow hIo5 n0 hbs hll hIo hbW
      go_wp2
      go_roundw
      case rel => exact ⟨k + 1, by omega, by go_num, hI9, hB9⟩
      case measure => simp [intOf]; omega
    · obtain rfl : k = zs.length := by omega
      rw [List.take_length] at hri
      have hch : chB zs = true := chB_yes (fun i hi => HZ.out.in hi) |>.trans (decide_eq_true hl2)
      have hQ := fun U h => C.chs a2 c2 zs U h (by omega)
      have e1 : pcE zs = 0 := by simp [pcE, hch]
      have hsh := pc_short hch
      obtain ⟨D, hD⟩ : ∃ D, pcB zs = D := ⟨_, rfl⟩
      simp only [e1, hD] at hQ
      rw [hD] at hsh
      obtain ⟨k, hkn⟩ : ∃ k, n % 2001 = k := ⟨_, rfl⟩
      have hk1 : (n : Int) % 2001 = (k : Int) := by omega
      have hk2 : k ≤ 2000 := by omega
      have hch2 : chB (List.replicate k (0 : Int)) = true := by
        rw [chB_iff]
        exact ⟨fun z hz => by rw [(List.mem_replicate.1 hz).2]; exact ⟨by decide, by decide⟩, by rw [List.length_replicate]; exact hk2⟩
      have e2 : pcE (List.replicate k (0 : Int)) = 0 := by simp [pcE, hch2]
      have e3 : (pcB (List.replicate k (0 : Int))).length = (k + 63) / 64 := by rw [pcB, if_pos hch2, pc_nought]
      obtain ⟨q, hq⟩ : ∃ q, (k + 63) / 64 = q := ⟨_, rfl⟩
      have hq1 : ((k : Int) + 63) / 64 = (q : Int) := by omega
      have hR := fun p d U h => C.chs p d (List.replicate k (0 : Int)) U h (by rw [List.length_replicate]; omega)
      simp only [e2, e3, hq, List.length_replicate] at hR
      have hmk := fun U => run_make_row' (P := Try.prog) 22 3 (.int .i64 0) 8 Try.underlying22 infoA_i64 rfl .i64 .i64 k (by omega) (by omega) U
      have g2 : ¬ (zs.length : Int) < (zs.length : Int) := by omega
      have g3 : (D.length : Int) ≤ 3 * (zs.length : Int) := by omega
      have g4 : ((q : Int) == (q : Int)) = true := by simp
      have hwk : IntKind.i64.wrap (k : Int) = (k : Int) := wrapi64' (by omega) (by omega)
      clear hch hch2 e1 e2 e3 hD hkn hq hlk hIo
      go_wp2_with fail
      refine (hQ _ hri).mono ?_
      rintro e u2 ⟨a3, c3, rfl, hr3, hb2⟩
      replace hbW : Below w.heap.size w u2 := hbW.trans (hb2.mono hbW.size)
      clear hb2 hQ hri hr3
      have hM := Ri.made u2 k 3 (by omega)
      have hbM : Below w.heap.size w (u2.alloc (.cells (madeCells #[.int .i64 0] k) 3)) := hbW.trans ((bl1 _).mono hbW.size)
      have hRR := hR _ _ _ hM
      replace hmk := hmk u2
      generalize u2.alloc (.cells (madeCells #[.int .i64 0] k) 3) = u3 at hM hbM hRR hmk
      clear hR
      go_wp2_with fail
      refine hRR.mono ?_
      rintro e u4 ⟨a5, c5, rfl, hr5, hb5⟩
      replace hbM : Below w.heap.size w u4 := hbM.trans (hb5.mono hbM.size)
      clear hb5 hRR hr5 hM hmk
      go_wp2
      go_ret
      exact ⟨rt_bool (by first | rfl | simp), hbM⟩

end Go.Proofs.Ytngkckannclcmaa
