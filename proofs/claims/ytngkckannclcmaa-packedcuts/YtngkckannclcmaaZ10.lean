/-
  foundryref11.ReadChanges: the walk.
  foundryref11.ReadPoints: the walk.
-/
import Derived.Test.YtngkckannclcmaaZ6
import Derived.Test.YtngkckannclcmaaZ7
import Derived.Test.YtngkckannclcmaaZ5
import Derived.Deep.CutRange
import Derived.Deep.CutBlock
namespace Go.Proofs.Ytngkckannclcmaa
open Go.RowKit Go.Maps
set_option linter.unusedSimpArgs false
set_option linter.unusedVariables false

/-- What is read, behind what has been read. -/
def onto (zs : List Int) (o : Option (List Int × Nat)) : Option (List Int × Nat) := o.map (fun q => (zs ++ q.1, q.2))
theorem onto_nil (o : Option (List Int × Nat)) : onto [] o = o := by cases o <;> simp [onto]
theorem onto_onto (zs ys : List Int) (o : Option (List Int × Nat)) : onto zs (onto ys o) = onto (zs ++ ys) o := by cases o <;> simp [onto]
theorem rdF_bad {R : Rp} {b : List Nat} {f p n : Nat} (hn : 0 < n) (h : hdB R b p n = false) : rdF R b f p n = none := by
  obtain ⟨n, rfl⟩ : ∃ m, n = m + 1 := ⟨n - 1, by omega⟩
  cases f with
  | zero => rfl
  | succ f => rw [rdF, h]; rfl
theorem rdF_step {R : Rp} {b : List Nat} {p n c kd : Nat} (h : hdB R b p n = true) (hc : c = nmV b (p : Int) 1 % R.M + 1) (hk : kd = nmV b (p : Int) 1 / R.M) : rdF R b n p n = onto (runV R b kd (p + 1) c) (rdF R b (n - c) (p + 1 + c * R.sz kd) (n - c)) := by
  subst hc hk
  have hh := of_decide_eq_true h
  obtain ⟨n, rfl⟩ : ∃ m, n = m + 1 := ⟨n - 1, by omega⟩
  rw [rdF, if_pos h, rdF_fuel R b n (n + 1 - (nmV b (p : Int) 1 % R.M + 1)) _ _ (by omega) (by omega)]
  unfold onto
  cases rdF R b (n + 1 - (nmV b (p : Int) 1 % R.M + 1)) (p + 1 + (nmV b (p : Int) 1 % R.M + 1) * R.sz (nmV b (p : Int) 1 / R.M)) (n + 1 - (nmV b (p : Int) 1 % R.M + 1)) with
  | none => rfl
  | some q => rfl
theorem inB_nat {l p n : Nat} : inB l (p : Int) (n : Int) = decide (p + n ≤ l) := by unfold inB; exact decide_eq_decide.2 ⟨fun h => by omega, fun h => by omega⟩
theorem sx8_i64 {v : Nat} (h : v < 256) : I64 (sx8 v) := by unfold sx8 I64; split <;> omega
theorem sx16_i64 {v : Nat} (h : v < 65536) : I64 (sx16 v) := by unfold sx16 I64; split <;> omega

theorem rc_out {b : List Nat} {n : Int} (h : rcO b n = none) : rcL b n = [] ∧ rcN b n = 0 := by unfold rcL rcN; rw [h]; exact ⟨rfl, rfl⟩
set_option maxHeartbeats 8000000 in
set_option maxRecDepth 100000 in
theorem sReadChanges_any (a : Option Addr) (cap : Nat) (b : List Nat) (n : Int) (w : World) (h : Rb w a cap b) (hn : I64 n) (hbl : b.length ≤ 1000000000) :
    Calls Try.prog 18 #[.slice a b.length cap, .int .i64 n] w fun e w' => ∃ a' c', e = .returned (.tuple #[.slice a' (rcL b n).length c', .int .i64 (rcN b n), .int .i64 (rcE b n)]) ∧ Ri w' a' c' (rcL b n) ∧ Below w.heap.size w w' := by
  have HRB : Hid (Rb w a cap b) := h
  clear h
  by_cases hr : n < 0
  · have HNO : Hid (rcL b n = [] ∧ rcN b n = 0 ∧ rcE b n = 4) := by
      have h0 : rcO b n = none := by rw [rcO, if_neg (by omega)]
      refine ⟨(rc_out h0).1, (rc_out h0).2, ?_⟩
      rw [rcE, h0]
      exact if_neg (by omega)
    have hbW : Below w.heap.size w w := Below.refl _ _
    go_enter Try.func18, Try.ntmps18
    go_wp2
    go_ret3
    exact ⟨none, 0, by rw [HNO.out.1, HNO.out.2.1, HNO.out.2.2]; rfl, by rw [HNO.out.1]; exact Ri.nil _ _ _ (Nat.zero_le _), hbW⟩
  by_cases hr2 : 2000 < n
  · have HNO : Hid (rcL b n = [] ∧ rcN b n = 0 ∧ rcE b n = 4) := by
      have h0 : rcO b n = none := by rw [rcO, if_neg (by omega)]
      refine ⟨(rc_out h0).1, (rc_out h0).2, ?_⟩
      rw [rcE, h0]
      exact if_neg (by omega)
    have hbW : Below w.heap.size w w := Below.refl _ _
    go_enter Try.func18, Try.ntmps18
    go_wp2
    go_ret3
    exact ⟨none, 0, by rw [HNO.out.1, HNO.out.2.1, HNO.out.2.2]; rfl, by rw [HNO.out.1]; exact Ri.nil _ _ _ (Nat.zero_le _), hbW⟩
  obtain ⟨N, rfl⟩ : ∃ N : Nat, n = (N : Int) := ⟨n.toNat, by omega⟩
  have HO : Hid (rcO b (N : Int) = rdF RC b N 0 N) := by show _ = _; rw [rcO, if_pos (by omega), Int.toNat_natCast]
  have HNN : Hid (rcO b (N : Int) = none → rcL b (N : Int) = [] ∧ rcN b (N : Int) = 0 ∧ rcE b (N : Int) = 2) := fun h0 => by
    refine ⟨(rc_out h0).1, (rc_out h0).2, ?_⟩
    rw [rcE, h0]
    exact if_pos (by omega)
  go_enter Try.func18, Try.ntmps18
  go_wp2
  go_loopw [7, 8] (fun v pp wr => ∃ (p : Nat) (zs : List Int), zs.length ≤ N ∧ p ≤ b.length ∧ pp = .int .i64 (p : Int) ∧ rcO b (N : Int) = onto zs (rdF RC b (N - zs.length) p (N - zs.length)) ∧ Io w.heap.size wr v zs ∧ Below w.heap.size w wr) (fun _ pp _ => b.length - (intOf pp).toNat)
  case atStart => exact ⟨0, [], Nat.zero_le _, Nat.zero_le _, rfl, by rw [onto_nil]; exact HO.out, Io.nil _ _, Below.refl _ _⟩
  case round =>
    obtain ⟨p, zs, hz, hp, rfl, ho, hIo, hbW⟩ := hrel
    have HOO : Hid (rcO b (N : Int) = onto zs (rdF RC b (N - zs.length) p (N - zs.length))) := ho
    clear ho
    obtain ⟨av, cv, rfl, hri⟩ := hIo.slice
    by_cases hzn : zs.length < N
    rotate_left
    · have HZ : Hid (rcO b (N : Int) = some (zs, p)) := by
        show _ = _
        rw [HOO.out, show N - zs.length = 0 by omega, rdF_zero]
        simp [onto]
      have HY : Hid (rcL b (N : Int) = zs ∧ rcN b (N : Int) = (p : Int) ∧ rcE b (N : Int) = 0) := by
        unfold rcL rcN rcE
        rw [HZ.out]
        exact ⟨rfl, rfl, rfl⟩
      have g1 : ¬ (zs.length : Int) < (N : Int) := by omega
      go_wp2
      go_ret3
      exact ⟨av, cv, by rw [HY.out.1, HY.out.2.1, HY.out.2.2]; rfl, by rw [HY.out.1]; exact hri, hbW⟩
    have hrb := HRB.out.below hbW
    have hu := su8_any a cap b (p : Int) wr hrb ⟨by omega, by omega⟩
    have hlt := nmV_lt hrb.lim (p : Int) 1
    rw [show inB b.length (p : Int) 1 = decide (p + 1 ≤ b.length) from inB_nat (n := 1)] at hu
    obtain ⟨h, hh⟩ : ∃ h, nmV b (p : Int) 1 = h := ⟨_, rfl⟩
    have HH : Hid (nmV b (p : Int) 1 = h) := hh
    rw [hh] at hu hlt
    simp only [Nat.pow_one] at hlt
    have HBD : Hid (¬ (p + 1 ≤ b.length ∧ h < 192 ∧ h % 64 + 1 ≤ N - zs.length ∧ p + 1 + (h % 64 + 1) * szC (h / 64) ≤ b.length) → rcO b (N : Int) = none) := fun hx => by
      rw [HOO.out, rdF_bad (by omega) (by rw [hdB, HH.out]; exact decide_eq_false hx)]
      rfl
    have HST : Hid ((p + 1 ≤ b.length ∧ h < 192 ∧ h % 64 + 1 ≤ N - zs.length ∧ p + 1 + (h % 64 + 1) * szC (h / 64) ≤ b.length) → rcO b (N : Int) = onto (zs ++ runV RC b (h / 64) (p + 1) (h % 64 + 1)) (rdF RC b (N - zs.length - (h % 64 + 1)) (p + 1 + (h % 64 + 1) * szC (h / 64)) (N - zs.length - (h % 64 + 1)))) := fun hx => by
      rw [HOO.out, rdF_step (c := h % 64 + 1) (kd := h / 64) (by rw [hdB, HH.out]; exact decide_eq_true hx) (by rw [HH.out]; rfl) (by rw [HH.out]; rfl), onto_onto]
      rfl
    obtain ⟨m, hm⟩ : ∃ m, h % 64 = m := ⟨_, rfl⟩
    have hmi : (h : Int) % 64 = (m : Int) := by omega
    rw [hm] at HBD HST
    have hm64 : m < 64 := by omega
    have g1 : (zs.length : Int) < (N : Int) := by omega
    clear hh HOO hri
    by_cases h1 : p + 1 ≤ b.length
    rotate_left
    · have HNO := HNN.out (HBD.out (fun hx => h1 hx.1))
      have HNO : Hid (_) := HNO
      rw [decide_eq_false h1] at hu
      go_wp2_with fail
      refine hu.mono ?_
      rintro e w1 ⟨rfl, rfl⟩
      clear hu
      go_wp2
      go_ret3
      exact ⟨none, 0, by rw [HNO.out.1, HNO.out.2.1, HNO.out.2.2]; rfl, by rw [HNO.out.1]; exact Ri.nil _ _ _ (Nat.zero_le _), hbW⟩
    rw [decide_eq_true h1] at hu
    by_cases h2 : h < 192
    rotate_left
    · have HNO := HNN.out (HBD.out (fun hx => h2 hx.2.1))
      have HNO : Hid (_) := HNO
      have g2 : (192 : Int) ≤ (h : Int) := by omega
      go_wp2_with fail
      refine hu.mono ?_
      rintro e w1 ⟨rfl, rfl⟩
      clear hu
      go_wp2
      go_ret3
      exact ⟨none, 0, by rw [HNO.out.1, HNO.out.2.1, HNO.out.2.2]; rfl, by rw [HNO.out.1]; exact Ri.nil _ _ _ (Nat.zero_le _), hbW⟩
    have g2 : ¬ (192 : Int) ≤ (h : Int) := by omega
    by_cases h3 : m + 1 ≤ N - zs.length
    rotate_left
    · have HNO := HNN.out (HBD.out (fun hx => h3 hx.2.2.1))
      have HNO : Hid (_) := HNO
      have g3 : (N : Int) - (zs.length : Int) < (m : Int) + 1 := by omega
      go_wp2_with fail
      refine hu.mono ?_
      rintro e w1 ⟨rfl, rfl⟩
      clear hu
      go_wp2
      go_ret3
      exact ⟨none, 0, by rw [HNO.out.1, HNO.out.2.1, HNO.out.2.2]; rfl, by rw [HNO.out.1]; exact Ri.nil _ _ _ (Nat.zero_le _), hbW⟩
    have g3 : ¬ (N : Int) - (zs.length : Int) < (m : Int) + 1 := by omega
    go_wp2_with fail
    refine hu.mono ?_
    rintro e w1 ⟨rfl, rfl⟩
    clear hu
    go_wp2
    go_loopw [7, 8, 11] (fun v pp kk wr => ∃ (j q : Nat), j ≤ m + 1 ∧ q = p + 1 + j * szC (h / 64) ∧ q ≤ b.length ∧ pp = .int .i64 (q : Int) ∧ kk = .int .i64 (j : Int) ∧ Io w.heap.size wr v (zs ++ runV RC b (h / 64) (p + 1) j) ∧ Below w.heap.size w wr) (fun _ _ kk _ => m + 1 - (intOf kk).toNat)
    case atStart => exact ⟨0, p + 1, Nat.zero_le _, by rw [Nat.zero_mul], h1, by go_num, rfl, by rw [show runV RC b (h / 64) (p + 1) 0 = [] from rfl, List.append_nil]; exact hIo, hbW⟩
    case round =>
      clear hIo hbW
      obtain ⟨j, q, hj, hq, hql, rfl, rfl, hIo, hbW⟩ := hrel
      have HQ : Hid (q = p + 1 + j * szC (h / 64)) := hq
      clear hq
      obtain ⟨a4, c4, rfl, _⟩ := hIo.slice
      by_cases hjm : j ≤ m
      rotate_left
      · obtain rfl : j = m + 1 := by omega
        have HS : Hid (_) := HST.out ⟨h1, h2, h3, by rw [← HQ.out]; exact hql⟩
        have hlen : (zs ++ runV RC b (h / 64) (p + 1) (m + 1)).length = zs.length + (m + 1) := by rw [List.length_append, runV_len]
        have hpq : p < q := by rw [HQ.out]; omega
        have g4 : ¬ (((m + 1 : Nat) : Nat) : Int) ≤ (m : Int) := by omega
        have HRL : Hid (rcO b (N : Int) = onto (zs ++ runV RC b (h / 64) (p + 1) (m + 1)) (rdF RC b (N - (zs ++ runV RC b (h / 64) (p + 1) (m + 1)).length) q (N - (zs ++ runV RC b (h / 64) (p + 1) (m + 1)).length))) := by
          show _ = _
          rw [HS.out, hlen, HQ.out, show N - (zs.length + (m + 1)) = N - zs.length - (m + 1) by omega]
        go_wp2
        go_roundw
        case rel => exact ⟨q, _, by rw [hlen]; omega, hql, rfl, HRL.out, hIo, hbW⟩
        case measure => simp [intOf]; omega
      have g4 : (j : Int) ≤ (m : Int) := by omega
      have hrb := HRB.out.below hbW
      have HSC : Hid (zs ++ runV RC b (h / 64) (p + 1) (j + 1) = (zs ++ runV RC b (h / 64) (p + 1) j) ++ [vlC b (h / 64) q]) := by
        show _ = _
        rw [runV_succ, ← List.append_assoc, HQ.out]
        rfl
      have HQ2 : Hid (p + 1 + (j + 1) * szC (h / 64) = q + szC (h / 64)) := by show _ = _; rw [HQ.out, Nat.add_mul, Nat.one_mul]; omega
      have HBD2 : Hid (b.length < q + szC (h / 64) → rcO b (N : Int) = none) := fun hx => HBD.out (fun hy => by
        have h5 := hy.2.2.2
        have h6 : (j + 1) * szC (h / 64) ≤ (m + 1) * szC (h / 64) := Nat.mul_le_mul_right _ (by omega)
        have h7 := HQ2.out
        omega)
      have hll : (zs ++ runV RC b (h / 64) (p + 1) j).length + 1 ≤ 1000000 := by rw [List.length_append, runV_len]; omega
      clear HBD HST
      obtain ⟨ys, hys⟩ : ∃ ys, zs ++ runV RC b (h / 64) (p + 1) j = ys := ⟨_, rfl⟩
      rw [hys] at HSC hIo hll ⊢
      clear hys
      obtain ⟨kd, hkd⟩ : ∃ k, h / 64 = k := ⟨_, rfl⟩
      have HKD : Hid (h / 64 = kd) := hkd
      rw [hkd] at HQ2 HBD2
      rw [show vlC b (h / 64) q = vlC b kd q by rw [hkd]] at HSC
      rcases (by omega : kd = 0 ∨ kd = 1 ∨ kd = 2) with h0 | h0 | h0
      · have gk : (h : Int) < 64 := by omega
        rw [h0, show szC 0 = 1 from rfl] at HQ2 HBD2
        rw [h0] at HKD
        rw [h0, show vlC b 0 q = sx8 (nmV b (q : Int) 1) from rfl] at HSC
        clear hkd h0
        have hu := su8_any a cap b (q : Int) wr hrb ⟨by omega, by omega⟩
        have hlt2 := nmV_lt hrb.lim (q : Int) 1
        rw [show inB b.length (q : Int) 1 = decide (q + 1 ≤ b.length) from inB_nat (n := 1)] at hu
        by_cases h5 : q + 1 ≤ b.length
        rotate_left
        · have HNO := HNN.out (HBD2.out (by omega))
          have HNO : Hid (_) := HNO
          have hv0 : nmV b (q : Int) 1 = 0 := by unfold nmV; rw [show inB b.length (q : Int) ((1 : Nat) : Int) = false from (inB_nat (n := 1)).trans (decide_eq_false h5)]; rfl
          rw [decide_eq_false h5, hv0] at hu
          clear hv0
          go_wp2_with fail
          refine hu.mono ?_
          rintro e w1 ⟨rfl, rfl⟩
          clear hu
          go_wp2
          go_ret3
          exact ⟨none, 0, by rw [HNO.out.1, HNO.out.2.1, HNO.out.2.2]; rfl, by rw [HNO.out.1]; exact Ri.nil _ _ _ (Nat.zero_le _), hbW⟩
        rw [decide_eq_true h5] at hu
        obtain ⟨v, hv⟩ : ∃ v, nmV b (q : Int) 1 = v := ⟨_, rfl⟩
        rw [hv] at hu hlt2 HSC
        simp only [Nat.pow_one] at hlt2
        clear hv
        by_cases h6 : 128 ≤ v
        · rw [show sx8 v = (v : Int) - 256 from if_pos h6] at HSC
          have g5 : (128 : Int) ≤ (v : Int) := by omega
          have hzi : I64 ((v : Int) - 256) := ⟨by omega, by omega⟩
          have hIo5 := hIo.below (bl1 (.cells #[.int .i64 ((v : Int) - 256)] 3))
          have hN := heap_alloc_new wr (.cells #[.int .i64 ((v : Int) - 256)] 3)
          have n0 := cell_of_row _ wr.heap.size 0 _ _ (0, 0) hN
          have hbs : w.heap.size ≤ (wr.alloc (.cells #[.int .i64 ((v : Int) - 256)] 3)).heap.size := Nat.le_trans hbW.size (bl1 _).size
          clear hN
          go_wp2_with fail
          refine hu.mono ?_
          rintro e w1 ⟨rfl, rfl⟩
          clear hu
          go_wp2_with (at_builtin; refine wpList_append_int rfl _ _ rfl w.heap.size _ ys rfl hIo5 wr.heap.size ((v : Int) - 256) rfl n0 hzi hll hbs ?_)
          intro v' w9 hI9 hgrow
          have hB9 : Below w.heap.size w w9 := (hbW.alloc hbW.size _).grown hgrow hbs (fun k hk => hIo.lo hk)
          rw [← HSC.out] at hI9
          clear hgrow hIo5 n0 hbs hll hIo hbW
          go_wp2
          go_roundw
          case rel => exact ⟨j + 1, q + 1, by omega, by rw [HKD.out]; exact HQ2.out.symm, by omega, by go_num, by go_num, hI9, hB9⟩
          case measure => simp [intOf]; omega
        · rw [show sx8 v = (v : Int) from if_neg h6] at HSC
          have g5 : ¬ (128 : Int) ≤ (v : Int) := by omega
          have hzi : I64 (v : Int) := ⟨by omega, by omega⟩
          have hIo5 := hIo.below (bl1 (.cells #[.int .i64 (v : Int)] 3))
          have hN := heap_alloc_new wr (.cells #[.int .i64 (v : Int)] 3)
          have n0 := cell_of_row _ wr.heap.size 0 _ _ (0, 0) hN
          have hbs : w.heap.size ≤ (wr.alloc (.cells #[.int .i64 (v : Int)] 3)).heap.size := Nat.le_trans hbW.size (bl1 _).size
          clear hN
          go_wp2_with fail
          refine hu.mono ?_
          rintro e w1 ⟨rfl, rfl⟩
          clear hu
          go_wp2_with (at_builtin; refine wpList_append_int rfl _ _ rfl w.heap.size _ ys rfl hIo5 wr.heap.size (v : Int) rfl n0 hzi hll hbs ?_)
          intro v' w9 hI9 hgrow
          have hB9 : Below w.heap.size w w9 := (hbW.alloc hbW.size _).grown hgrow hbs (fun k hk => hIo.lo hk)
          rw [← HSC.out] at hI9
          clear hgrow hIo5 n0 hbs hll hIo hbW
          go_wp2
          go_roundw
          case rel => exact ⟨j + 1, q + 1, by omega, by rw [HKD.out]; exact HQ2.out.symm, by omega, by go_num, by go_num, hI9, hB9⟩
          case measure => simp [intOf]; omega
      · have gk : ¬ (h : Int) < 64 := by omega
        have gk2 : (h : Int) < 128 := by omega
        rw [h0, show szC 1 = 2 from rfl] at HQ2 HBD2
        rw [h0] at HKD
        rw [h0, show vlC b 1 q = sx16 (nmV b (q : Int) 2) from rfl] at HSC
        clear hkd h0
        have hu := si16_any a cap b (q : Int) wr hrb ⟨by omega, by omega⟩
        have hlt2 := nmV_lt hrb.lim (q : Int) 2
        have hzi := sx16_i64 (v := nmV b (q : Int) 2) (by simpa using hlt2)
        rw [show inB b.length (q : Int) 2 = decide (q + 2 ≤ b.length) from inB_nat (n := 2)] at hu
        obtain ⟨v, hv⟩ : ∃ v, sx16 (nmV b (q : Int) 2) = v := ⟨_, rfl⟩
        rw [hv] at hu HSC hzi
        clear hv hlt2
        by_cases h5 : q + 2 ≤ b.length
        rotate_left
        · have HNO := HNN.out (HBD2.out (by omega))
          have HNO : Hid (_) := HNO
          rw [decide_eq_false h5] at hu
          go_wp2_with fail
          refine hu.mono ?_
          rintro e w1 ⟨rfl, rfl⟩
          clear hu
          go_wp2
          go_ret3
          exact ⟨none, 0, by rw [HNO.out.1, HNO.out.2.1, HNO.out.2.2]; rfl, by rw [HNO.out.1]; exact Ri.nil _ _ _ (Nat.zero_le _), hbW⟩
        rw [decide_eq_true h5] at hu
        have hIo5 := hIo.below (bl1 (.cells #[.int .i64 v] 3))
        have hN := heap_alloc_new wr (.cells #[.int .i64 v] 3)
        have n0 := cell_of_row _ wr.heap.size 0 _ _ (0, 0) hN
        have hbs : w.heap.size ≤ (wr.alloc (.cells #[.int .i64 v] 3)).heap.size := Nat.le_trans hbW.size (bl1 _).size
        clear hN
        go_wp2_with fail
        refine hu.mono ?_
        rintro e w1 ⟨rfl, rfl⟩
        clear hu
        go_wp2_with (at_builtin; refine wpList_append_int rfl _ _ rfl w.heap.size _ ys rfl hIo5 wr.heap.size v rfl n0 hzi hll hbs ?_)
        intro v' w9 hI9 hgrow
        have hB9 : Below w.heap.size w w9 := (hbW.alloc hbW.size _).grown hgrow hbs (fun k hk => hIo.lo hk)
        rw [← HSC.out] at hI9
        clear hgrow hIo5 n0 hbs hll hIo hbW
        go_wp2
        go_roundw
        case rel => exact ⟨j + 1, q + 2, by omega, by rw [HKD.out]; exact HQ2.out.symm, by omega, by go_num, by go_num, hI9, hB9⟩
        case measure => simp [intOf]; omega
      · have gk : ¬ (h : Int) < 64 := by omega
        have gk2 : ¬ (h : Int) < 128 := by omega
        rw [h0, show szC 2 = 0 from rfl] at HQ2
        rw [h0] at HKD
        rw [h0, show vlC b 2 q = 0 from rfl] at HSC
        have hzi : I64 0 := ⟨by decide, by decide⟩
        clear hkd h0 HBD2
        have hIo5 := hIo.below (bl1 (.cells #[.int .i64 0] 3))
        have hN := heap_alloc_new wr (.cells #[.int .i64 0] 3)
        have n0 := cell_of_row _ wr.heap.size 0 _ _ (0, 0) hN
        have hbs : w.heap.size ≤ (wr.alloc (.cells #[.int .i64 0] 3)).heap.size := Nat.le_trans hbW.size (bl1 _).size
        clear hN
        go_wp2_with (at_builtin; refine wpList_append_int rfl _ _ rfl w.heap.size _ ys rfl hIo5 wr.heap.size 0 rfl n0 hzi hll hbs ?_)
        intro v' w9 hI9 hgrow
        have hB9 : Below w.heap.size w w9 := (hbW.alloc hbW.size _).grown hgrow hbs (fun k hk => hIo.lo hk)
        rw [← HSC.out] at hI9
        clear hgrow hIo5 n0 hbs hll hIo hbW
        go_wp2
        go_roundw
        case rel => exact ⟨j + 1, q + 0, by omega, by rw [HKD.out]; exact HQ2.out.symm, by omega, by go_num, by go_num, hI9, hB9⟩
        case measure => simp [intOf]; omega

end Go.Proofs.Ytngkckannclcmaa

namespace Go.Proofs.Ytngkckannclcmaa
open Go.RowKit Go.Maps
set_option linter.unusedSimpArgs false
set_option linter.unusedVariables false

/-- A measure that is 0 when a flag is down. -/
def mOk (v : Value) (k : Nat) : Nat := match v with | .bool true => k + 1 | _ => 0
theorem sums_snoc (ds : List Int) (d : Int) : sums 0 (ds ++ [d]) = sums 0 ds ++ [lastS 0 ds + d] := by rw [sums_append]; rfl
theorem lastS_snoc (ds : List Int) (d : Int) : lastS 0 (ds ++ [d]) = lastS 0 ds + d := by rw [lastS_append]; rfl
theorem rp_none {b : List Nat} (h : rpO b = none) : rpL b = [] ∧ rpN b = 0 ∧ rpE b = 2 := by unfold rpL rpN rpE; rw [h]; exact ⟨rfl, rfl, rfl⟩
theorem rp_bad1 {b : List Nat} (h : ptO b = false) : rpO b = none := by rw [rpO, h]; rfl
theorem rp_bad2 {b : List Nat} (h : rdF RPt b (ptN b) (ptA b) (ptN b) = none) : rpO b = none := by rw [rpO, h]; split <;> rfl
theorem rp_end {b : List Nat} {ds : List Int} {p : Nat} (h0 : ptO b = true) (h : rdF RPt b (ptN b) (ptA b) (ptN b) = some (ds, p)) : rpO b = if ptB (sums 0 ds) then some (sums 0 ds, p) else none := by rw [rpO, h0, h]; rfl
theorem ptN_le {b : List Nat} (hb : Byt b) : ptN b ≤ 32767 := by
  have h0 := nmV_lt hb 0 1
  have h1 := nmV_lt hb 1 1
  unfold ptN
  split <;> omega

set_option maxHeartbeats 16000000 in
set_option maxRecDepth 100000 in
theorem sReadPoints_any (a : Option Addr) (cap : Nat) (b : List Nat) (w : World) (h : Rb w a cap b) (hbl : b.length ≤ 1000000000) :
    Calls Try.prog 12 #[.slice a b.length cap] w fun e w' => ∃ a' c', e = .returned (.tuple #[.slice a' (rpL b).length c', .int .i64 (rpN b), .int .i64 (rpE b)]) ∧ Ri w' a' c' (rpL b) ∧ Below w.heap.size w w' := by
  have HRB : Hid (Rb w a cap b) := h
  have hu := su8_any a cap b 0 w h ⟨by decide, by decide⟩
  have hu1 := su8_any a cap b 1 w h ⟨by decide, by decide⟩
  have hlt0 := nmV_lt h.lim 0 1
  have hlt1 := nmV_lt h.lim 1 1
  have hNN := ptN_le h.lim
  have i0 : inB b.length 0 1 = decide (1 ≤ b.length) := inB_nat (p := 0) (n := 1)
  have i1 : inB b.length 1 1 = decide (2 ≤ b.length) := inB_nat (p := 1) (n := 1)
  rw [i0] at hu
  rw [i1] at hu1
  obtain ⟨x0, hx0⟩ : ∃ x, nmV b 0 1 = x := ⟨_, rfl⟩
  obtain ⟨x1, hx1⟩ : ∃ x, nmV b 1 1 = x := ⟨_, rfl⟩
  have HX : Hid (nmV b 0 1 = x0 ∧ nmV b 1 1 = x1) := ⟨hx0, hx1⟩
  rw [hx0] at hu hlt0
  rw [hx1] at hu1 hlt1
  clear h i0 i1 hx0 hx1
  simp only [Nat.pow_one] at hlt0 hlt1
  go_enter Try.func12, Try.ntmps12
  go_wp2_with fail
  refine hu.mono ?_
  rintro e w1 ⟨rfl, rfl⟩
  clear hu
  go_upto_if 25 with fail
  go_cut [5, 6, 7] from 19 to 36 (fun s5 s6 s7 wx => s5 = .int .i64 (ptN b : Int) ∧ s6 = .bool (ptO b) ∧ s7 = .int .i64 (ptA b : Int) ∧ w = wx)
  case first =>
    by_cases h128 : 128 ≤ x0
    · have HC : Hid (ptN b = (x0 - 128) * 256 + x1 ∧ ptO b = decide (2 ≤ b.length) ∧ ptA b = 2) := by
        unfold ptO ptN ptA
        rw [HX.out.1, HX.out.2, if_pos h128, if_pos h128]
        exact ⟨rfl, rfl, rfl⟩
      have g1 : (128 : Int) ≤ (x0 : Int) := by omega
      obtain ⟨N, hN⟩ : ∃ N : Nat, N = (x0 - 128) * 256 + x1 := ⟨_, rfl⟩
      have e1 : ((x0 : Int) - 128) * 256 + (x1 : Int) = (N : Int) := by omega
      have HN : Hid (ptN b = N) := by show _ = _; rw [HC.out.1, hN]
      generalize decide (2 ≤ b.length) = ok at *
      clear hN
      go_wp2_with fail
      refine hu1.mono ?_
      rintro e w1 ⟨rfl, rfl⟩
      clear hu1
      go_wp2
      go_meet
      exact ⟨by rw [HN.out], by rw [HC.out.2.1], by rw [HC.out.2.2]; rfl, rfl⟩
    · have HC : Hid (ptN b = x0 ∧ ptO b = decide (1 ≤ b.length) ∧ ptA b = 1) := by
        unfold ptO ptN ptA
        rw [HX.out.1, HX.out.2, if_neg h128, if_neg h128]
        exact ⟨rfl, rfl, rfl⟩
      have g1 : ¬ (128 : Int) ≤ (x0 : Int) := by omega
      generalize decide (1 ≤ b.length) = ok at *
      clear hu1
      go_wp2
      go_meet
      exact ⟨by rw [HC.out.1], by rw [HC.out.2.1], by rw [HC.out.2.2]; rfl, rfl⟩
  case rest =>
  obtain ⟨rfl, rfl, rfl, rfl⟩ := hcut
  clear hu1 hlt0 hlt1 HX
  have HPO : Hid (ptO b = false → rpO b = none) := rp_bad1
  have HPA : Hid (ptO b = true → ptA b ≤ b.length) := fun h => of_decide_eq_true h
  obtain ⟨N, hN⟩ : ∃ N, ptN b = N := ⟨_, rfl⟩
  obtain ⟨A, hA⟩ : ∃ A, ptA b = A := ⟨_, rfl⟩
  have HBZ : Hid (rdF RPt b N A N = none → rpO b = none) := fun h => rp_bad2 (by rw [hN, hA]; exact h)
  have HEN : Hid (∀ ds p, ptO b = true → rdF RPt b N A N = some (ds, p) → rpO b = if ptB (sums 0 ds) then some (sums 0 ds, p) else none) := fun ds p h0 h => rp_end h0 (by rw [hN, hA]; exact h)
  rw [hA] at HPA
  rw [hN] at hNN
  rw [hN, hA]
  clear hN hA
  generalize hO : ptO b = O at *
  go_wp2
  go_loopw [6, 7, 10, 11] (fun okv pp v lv wr => (∃ (ds : List Int) (p : Nat) (r : Int), O = true ∧ ds.length ≤ N ∧ p ≤ b.length ∧ okv = .bool true ∧ pp = .int .i64 (p : Int) ∧ lv = .int .i64 r ∧ r = lastS 0 ds ∧ 0 ≤ r ∧ r ≤ 65535 * (ds.length : Int) ∧ rdF RPt b N A N = onto ds (rdF RPt b (N - ds.length) p (N - ds.length)) ∧ Io w.heap.size wr v (sums 0 ds) ∧ Below w.heap.size w wr) ∨ (∃ (ys : List Int) (p r : Int), okv = .bool false ∧ pp = .int .i64 p ∧ lv = .int .i64 r ∧ rpO b = none ∧ Io w.heap.size wr v ys ∧ Below w.heap.size w wr)) (fun okv pp _ _ _ => mOk okv (b.length - (intOf pp).toNat))
  case atStart =>
    cases O with
    | true => exact .inl ⟨[], A, 0, rfl, Nat.zero_le _, HPA.out rfl, rfl, rfl, rfl, rfl, Int.le_refl _, by simp, by rw [onto_nil]; rfl, Io.nil _ _, Below.refl _ _⟩
    | false => exact .inr ⟨[], _, _, rfl, rfl, rfl, HPO.out rfl, Io.nil _ _, Below.refl _ _⟩
  case round =>
    rcases hrel with ⟨ds, p, r, rfl, hz, hp, rfl, rfl, rfl, hr, hr0, hr1, ho, hIo, hbW⟩ | ⟨ys, p, r, rfl, rfl, rfl, hno, hIo, hbW⟩
    rotate_left
    · have HNO : Hid (_) := rp_none hno
      obtain ⟨av, cv, rfl, _⟩ := hIo.slice
      clear hno
      by_cases hyn : (ys.length : Int) < (N : Int)
      · go_wp2
        go_ret3
        exact ⟨none, 0, by rw [HNO.out.1, HNO.out.2.1, HNO.out.2.2]; rfl, by rw [HNO.out.1]; exact Ri.nil _ _ _ (Nat.zero_le _), hbW⟩
      · go_wp2
        go_ret3
        exact ⟨none, 0, by rw [HNO.out.1, HNO.out.2.1, HNO.out.2.2]; rfl, by rw [HNO.out.1]; exact Ri.nil _ _ _ (Nat.zero_le _), hbW⟩
    have HR : Hid (r = lastS 0 ds) := hr
    have HOO : Hid (rdF RPt b N A N = onto ds (rdF RPt b (N - ds.length) p (N - ds.length))) := ho
    clear ho hr
    obtain ⟨av, cv, rfl, hri⟩ := hIo.slice
    have hsl := sums_len 0 ds
    rw [hsl] at hIo ⊢
    by_cases hzn : ds.length < N
    rotate_left
    · have HZ : Hid (rdF RPt b N A N = some (ds, p)) := by
        show _ = _
        rw [HOO.out, show N - ds.length = 0 by omega, rdF_zero]
        simp [onto]
      have HE : Hid (_) := HEN.out ds p rfl HZ.out
      have hpt := spoints_any av cv (sums 0 ds) wr hri
      rw [hsl] at hpt
      have g1 : ¬ (ds.length : Int) < (N : Int) := by omega
      clear HZ HOO
      cases hB : ptB (sums 0 ds) with
      | false =>
        have HNO : Hid (_) := rp_none (HE.out.trans (by rw [hB]; rfl))
        rw [hB] at hpt
        clear hB
        go_wp2_with fail
        refine hpt.mono ?_
        rintro e u2 ⟨rfl, hb2⟩
        replace hbW := hbW.trans (hb2.mono hbW.size)
        clear hpt hb2
        go_wp2
        go_ret3
        exact ⟨none, 0, by rw [HNO.out.1, HNO.out.2.1, HNO.out.2.2]; rfl, by rw [HNO.out.1]; exact Ri.nil _ _ _ (Nat.zero_le _), hbW⟩
      | true =>
        have HY : Hid (rpL b = sums 0 ds ∧ rpN b = (p : Int) ∧ rpE b = 0) := by
          have := HE.out
          rw [hB] at this
          unfold rpL rpN rpE
          rw [this]
          exact ⟨rfl, rfl, rfl⟩
        have HSL : Hid ((sums 0 ds).length = ds.length) := hsl
        rw [hB] at hpt
        clear hB hsl
        go_wp2_with fail
        refine hpt.mono ?_
        rintro e u2 ⟨rfl, hb2⟩
        replace hbW := hbW.trans (hb2.mono hbW.size)
        replace hri := hri.below hb2
        clear hpt hb2
        go_wp2
        go_ret3
        exact ⟨av, cv, by rw [HY.out.1, HY.out.2.1, HY.out.2.2, HSL.out]; rfl, by rw [HY.out.1]; exact hri, hbW⟩
    have HSL : Hid ((sums 0 ds).length = ds.length) := hsl
    clear hsl hri
    have hrb := HRB.out.below hbW
    have hu := su8_any a cap b (p : Int) wr hrb ⟨by omega, by omega⟩
    have hlt := nmV_lt hrb.lim (p : Int) 1
    rw [show inB b.length (p : Int) 1 = decide (p + 1 ≤ b.length) from inB_nat (n := 1)] at hu
    obtain ⟨h, hh⟩ : ∃ h, nmV b (p : Int) 1 = h := ⟨_, rfl⟩
    have HH : Hid (nmV b (p : Int) 1 = h) := hh
    rw [hh] at hu hlt
    have hlt : h < 256 := hlt
    have HBD : Hid (¬ (p + 1 ≤ b.length ∧ h % 128 + 1 ≤ N - ds.length ∧ p + 1 + (h % 128 + 1) * szP (h / 128) ≤ b.length) → rpO b = none) := fun hx => HBZ.out (by
      rw [HOO.out, rdF_bad (by omega) (by rw [hdB, HH.out]; exact decide_eq_false (fun hy => hx ⟨hy.1, hy.2.2⟩))]
      rfl)
    have HST : Hid ((p + 1 ≤ b.length ∧ h % 128 + 1 ≤ N - ds.length ∧ p + 1 + (h % 128 + 1) * szP (h / 128) ≤ b.length) → rdF RPt b N A N = onto (ds ++ runV RPt b (h / 128) (p + 1) (h % 128 + 1)) (rdF RPt b (N - ds.length - (h % 128 + 1)) (p + 1 + (h % 128 + 1) * szP (h / 128)) (N - ds.length - (h % 128 + 1)))) := fun hx => by
      rw [HOO.out, rdF_step (c := h % 128 + 1) (kd := h / 128) (by rw [hdB, HH.out]; exact decide_eq_true ⟨hx.1, hlt, hx.2⟩) (by rw [HH.out]; rfl) (by rw [HH.out]; rfl), onto_onto]
      rfl
    obtain ⟨m, hm⟩ : ∃ m, h % 128 = m := ⟨_, rfl⟩
    have hmi : (h : Int) % 128 = (m : Int) := by omega
    rw [hm] at HBD HST
    have hm128 : m < 128 := by omega
    have g1 : (ds.length : Int) < (N : Int) := by omega
    clear hh HOO
    obtain ⟨fb, hfb⟩ : ∃ fb, decide (p + 1 ≤ b.length) = fb := ⟨_, rfl⟩
    rw [hfb] at hu
    go_wp2_with fail
    refine hu.mono ?_
    rintro e w1 ⟨rfl, rfl⟩
    clear hu
    go_upto_region 14 with fail
    go_cut [6] from 37 to 99 (fun s6 wx => s6 = .bool (decide (p + 1 ≤ b.length ∧ m + 1 ≤ N - ds.length)) ∧ wr = wx)
    case first =>
      cases fb with
      | false =>
        have HF : Hid (decide (p + 1 ≤ b.length ∧ m + 1 ≤ N - ds.length) = false) := decide_eq_false (fun hx => (of_decide_eq_false hfb) hx.1)
        clear hfb
        go_wp2
        go_meet
        exact ⟨by rw [HF.out], rfl⟩
      | true =>
        by_cases h3 : m + 1 ≤ N - ds.length
        · have HF : Hid (decide (p + 1 ≤ b.length ∧ m + 1 ≤ N - ds.length) = true) := decide_eq_true ⟨of_decide_eq_true hfb, h3⟩
          have g3 : (m : Int) + 1 ≤ (N : Int) - (ds.length : Int) := by omega
          clear hfb
          go_wp2
          go_meet
          exact ⟨by rw [HF.out], rfl⟩
        · have HF : Hid (decide (p + 1 ≤ b.length ∧ m + 1 ≤ N - ds.length) = false) := decide_eq_false (fun hx => h3 hx.2)
          have g3 : ¬ (m : Int) + 1 ≤ (N : Int) - (ds.length : Int) := by omega
          clear hfb
          go_wp2
          go_meet
          exact ⟨by rw [HF.out], rfl⟩
    case rest =>
    obtain ⟨rfl, rfl⟩ := hcut
    clear hfb
    generalize hcc : decide (p + 1 ≤ b.length ∧ m + 1 ≤ N - ds.length) = cc at *
    have HCC : Hid (decide (p + 1 ≤ b.length ∧ m + 1 ≤ N - ds.length) = cc) := hcc
    clear hcc
    go_wp2
    go_loopw [6, 7, 10, 11, 15] (fun okv pp v lv kk wr => (∃ (j q : Nat) (r : Int), j ≤ m + 1 ∧ q = p + 1 + j * szP (h / 128) ∧ q ≤ b.length ∧ m + 1 ≤ N - ds.length ∧ okv = .bool true ∧ pp = .int .i64 (q : Int) ∧ lv = .int .i64 r ∧ r = lastS 0 (ds ++ runV RPt b (h / 128) (p + 1) j) ∧ 0 ≤ r ∧ r ≤ 65535 * ((ds.length : Int) + (j : Int)) ∧ kk = .int .i64 (j : Int) ∧ Io w.heap.size wr v (sums 0 (ds ++ runV RPt b (h / 128) (p + 1) j)) ∧ Below w.heap.size w wr) ∨ (∃ (ys : List Int) (p r : Int) (j : Nat), okv = .bool false ∧ pp = .int .i64 p ∧ lv = .int .i64 r ∧ kk = .int .i64 (j : Int) ∧ rpO b = none ∧ Io w.heap.size wr v ys ∧ Below w.heap.size w wr)) (fun okv _ _ _ kk _ => mOk okv (m + 1 - (intOf kk).toNat))
    case atStart =>
      cases cc with
      | true =>
        have hcc := of_decide_eq_true HCC.out
        exact .inl ⟨0, p + 1, r, Nat.zero_le _, by rw [Nat.zero_mul], hcc.1, hcc.2, rfl, by go_num, rfl, by rw [show runV RPt b (h / 128) (p + 1) 0 = [] from rfl, List.append_nil]; exact HR.out, hr0, by rw [show ((0 : Nat) : Int) = 0 from rfl, Int.add_zero]; exact hr1, rfl, by rw [show runV RPt b (h / 128) (p + 1) 0 = [] from rfl, List.append_nil]; exact hIo, hbW⟩
      | false =>
        have hcc := of_decide_eq_false HCC.out
        exact .inr ⟨_, _, _, 0, rfl, rfl, rfl, rfl, HBD.out (fun hx => hcc ⟨hx.1, hx.2.1⟩), hIo, hbW⟩
    case round =>
      clear hIo hbW hr0 hr1 HR HCC
      rcases hrel with ⟨j, q, r, hj, hq, hql, h3, rfl, rfl, rfl, hr, hr0, hr1, rfl, hIo, hbW⟩ | ⟨ys, p1, r, j, rfl, rfl, rfl, rfl, hno, hIo, hbW⟩
      rotate_left
      · have HNO : Hid (rpO b = none) := hno
        clear hno
        by_cases hjm : (j : Int) < (m : Int) + 1
        · go_wp2
          go_roundw
          case rel => exact .inr ⟨_, _, _, rfl, rfl, rfl, HNO.out, hIo, hbW⟩
          case measure => simp [intOf, mOk]
        · go_wp2
          go_roundw
          case rel => exact .inr ⟨_, _, _, rfl, rfl, rfl, HNO.out, hIo, hbW⟩
          case measure => simp [intOf, mOk]
      have HQ : Hid (q = p + 1 + j * szP (h / 128)) := hq
      have HR : Hid (r = lastS 0 (ds ++ runV RPt b (h / 128) (p + 1) j)) := hr
      clear hq hr
      obtain ⟨a4, c4, rfl, _⟩ := hIo.slice
      have hlen : (ds ++ runV RPt b (h / 128) (p + 1) j).length = ds.length + j := by rw [List.length_append, runV_len]
      have h1 : p + 1 ≤ b.length := by rw [HQ.out] at hql; omega
      by_cases hjm : j ≤ m
      rotate_left
      · obtain rfl : j = m + 1 := by omega
        have HS : Hid (_) := HST.out ⟨h1, h3, by rw [← HQ.out]; exact hql⟩
        have hpq : p < q := by rw [HQ.out]; omega
        have g4 : ¬ (((m + 1 : Nat) : Nat) : Int) < (m : Int) + 1 := by omega
        have HRL : Hid (rdF RPt b N A N = onto (ds ++ runV RPt b (h / 128) (p + 1) (m + 1)) (rdF RPt b (N - (ds ++ runV RPt b (h / 128) (p + 1) (m + 1)).length) q (N - (ds ++ runV RPt b (h / 128) (p + 1) (m + 1)).length))) := by
          show _ = _
          rw [HS.out, hlen, HQ.out, show N - (ds.length + (m + 1)) = N - ds.length - (m + 1) by omega]
        go_wp2
        go_roundw
        case rel => exact .inl ⟨_, q, r, by first | trivial | rfl, by rw [hlen]; omega, hql, rfl, rfl, rfl, HR.out, hr0, by rw [hlen]; omega, HRL.out, hIo, hbW⟩
        case measure => simp [intOf, mOk]; omega
      have g4 : (j : Int) < (m : Int) + 1 := by omega
      have hrb := HRB.out.below hbW
      have HSC : Hid (ds ++ runV RPt b (h / 128) (p + 1) (j + 1) = (ds ++ runV RPt b (h / 128) (p + 1) j) ++ [vlP b (h / 128) q]) := by
        show _ = _
        rw [runV_succ, ← List.append_assoc, HQ.out]
        rfl
      have HQ2 : Hid (p + 1 + (j + 1) * szP (h / 128) = q + szP (h / 128)) := by show _ = _; rw [HQ.out, Nat.add_mul, Nat.one_mul]; omega
      have HBD2 : Hid (b.length < q + szP (h / 128) → rpO b = none) := fun hx => HBD.out (fun hy => by
        have h5 := hy.2.2
        have h6 : (j + 1) * szP (h / 128) ≤ (m + 1) * szP (h / 128) := Nat.mul_le_mul_right _ (by omega)
        have h7 := HQ2.out
        omega)
      have hsl : (sums 0 (ds ++ runV RPt b (h / 128) (p + 1) j)).length = ds.length + j := by rw [sums_len, hlen]
      have hll : (sums 0 (ds ++ runV RPt b (h / 128) (p + 1) j)).length + 1 ≤ 1000000 := by rw [hsl]; omega
      clear HBD HST hlen hsl
      obtain ⟨es, hes⟩ : ∃ es, ds ++ runV RPt b (h / 128) (p + 1) j = es := ⟨_, rfl⟩
      obtain ⟨ys, hys⟩ : ∃ ys, sums 0 es = ys := ⟨_, rfl⟩
      have HYS : Hid (sums 0 es = ys) := hys
      rw [hes] at HSC HR hIo hll ⊢
      rw [hys] at hIo hll ⊢
      clear hys hes
      obtain ⟨kd, hkd⟩ : ∃ k, h / 128 = k := ⟨_, rfl⟩
      have HKD : Hid (h / 128 = kd) := hkd
      rw [hkd] at HQ2 HBD2
      rw [show vlP b (h / 128) q = vlP b kd q by rw [hkd]] at HSC
      rcases (by omega : kd = 0 ∨ kd = 1) with h0 | h0
      · have gk : (h : Int) / 128 = 0 := by omega
        rw [h0, show szP 0 = 1 from rfl] at HQ2 HBD2
        rw [h0] at HKD
        rw [h0, show vlP b 0 q = ((nmV b (q : Int) 1 : Nat) : Int) from rfl] at HSC
        clear hkd h0
        have hu := su8_any a cap b (q : Int) wr hrb ⟨by omega, by omega⟩
        have hlt2 := nmV_lt hrb.lim (q : Int) 1
        rw [show inB b.length (q : Int) 1 = decide (q + 1 ≤ b.length) from inB_nat (n := 1)] at hu
        obtain ⟨v, hv⟩ : ∃ v, nmV b (q : Int) 1 = v := ⟨_, rfl⟩
        rw [hv] at hu hlt2 HSC
        have hlt3 : v ≤ 65535 := by have : v < 256 := hlt2; omega
        clear hv hlt2
        have hzi : I64 (r + (v : Int)) := ⟨by omega, by omega⟩
        by_cases h5 : q + 1 ≤ b.length
        · rw [decide_eq_true h5] at hu
          have hIo5 := hIo.below (bl1 (.cells #[.int .i64 (r + (v : Int))] 3))
          have hN := heap_alloc_new wr (.cells #[.int .i64 (r + (v : Int))] 3)
          have n0 := cell_of_row _ wr.heap.size 0 _ _ (0, 0) hN
          have hbs : w.heap.size ≤ (wr.alloc (.cells #[.int .i64 (r + (v : Int))] 3)).heap.size := Nat.le_trans hbW.size (bl1 _).size
          clear hN
          go_wp2_with fail
          refine hu.mono ?_
          rintro e w1 ⟨rfl, rfl⟩
          clear hu
          go_wp2_with (at_builtin; refine wpList_append_int rfl _ _ rfl w.heap.size _ ys rfl hIo5 wr.heap.size (r + (v : Int)) rfl n0 hzi hll hbs ?_)
          intro v' w9 hI9 hgrow
          have hB9 : Below w.heap.size w w9 := (hbW.alloc hbW.size _).grown hgrow hbs (fun k hk => hIo.lo hk)
          clear hgrow hIo5 n0 hbs hll hIo hbW
          have HY2 : Hid (ys ++ [r + (v : Int)] = sums 0 (ds ++ runV RPt b (h / 128) (p + 1) (j + 1))) := by show _ = _; rw [HSC.out, sums_snoc, HYS.out, HR.out]
          have HR2 : Hid (r + (v : Int) = lastS 0 (ds ++ runV RPt b (h / 128) (p + 1) (j + 1))) := by show _ = _; rw [HSC.out, lastS_snoc, HR.out]
          rw [HY2.out] at hI9
          go_wp2
          go_roundw
          case rel => exact .inl ⟨j + 1, q + 1, _, by omega, by rw [HKD.out]; exact HQ2.out.symm, by omega, h3, rfl, by go_num, rfl, HR2.out, by omega, by omega, by go_num, hI9, hB9⟩
          case measure => simp [intOf, mOk]; omega
        · rw [decide_eq_false h5] at hu
          have HNO : Hid (rpO b = none) := HBD2.out (by omega)
          have hIo5 := hIo.below (bl1 (.cells #[.int .i64 (r + (v : Int))] 3))
          have hN := heap_alloc_new wr (.cells #[.int .i64 (r + (v : Int))] 3)
          have n0 := cell_of_row _ wr.heap.size 0 _ _ (0, 0) hN
          have hbs : w.heap.size ≤ (wr.alloc (.cells #[.int .i64 (r + (v : Int))] 3)).heap.size := Nat.le_trans hbW.size (bl1 _).size
          clear hN
          go_wp2_with fail
          refine hu.mono ?_
          rintro e w1 ⟨rfl, rfl⟩
          clear hu
          go_wp2_with (at_builtin; refine wpList_append_int rfl _ _ rfl w.heap.size _ ys rfl hIo5 wr.heap.size (r + (v : Int)) rfl n0 hzi hll hbs ?_)
          intro v' w9 hI9 hgrow
          have hB9 : Below w.heap.size w w9 := (hbW.alloc hbW.size _).grown hgrow hbs (fun k hk => hIo.lo hk)
          clear hgrow hIo5 n0 hbs hll hIo hbW
          go_wp2
          go_roundw
          case rel => exact .inr ⟨_, _, _, j + 1, rfl, rfl, rfl, by go_num, HNO.out, hI9, hB9⟩
          case measure => simp [intOf, mOk]
      · have gk : (h : Int) / 128 = 1 := by omega
        rw [h0, show szP 1 = 2 from rfl] at HQ2 HBD2
        rw [h0] at HKD
        rw [h0, show vlP b 1 q = ((nmV b (q : Int) 2 : Nat) : Int) from rfl] at HSC
        clear hkd h0
        have hu := su8_any a cap b (q : Int) wr hrb ⟨by omega, by omega⟩
        have hu2 := su16_any a cap b (q : Int) wr hrb ⟨by omega, by omega⟩
        generalize nmV b (q : Int) 1 = v1 at hu
        generalize inB b.length (q : Int) 1 = o1 at hu
        have hlt2 := nmV_lt hrb.lim (q : Int) 2
        rw [show inB b.length (q : Int) 2 = decide (q + 2 ≤ b.length) from inB_nat (n := 2)] at hu2
        obtain ⟨v, hv⟩ : ∃ v, nmV b (q : Int) 2 = v := ⟨_, rfl⟩
        rw [hv] at hu2 hlt2 HSC
        have hlt3 : v ≤ 65535 := by have : v < 65536 := hlt2; omega
        clear hv hlt2
        have hzi : I64 (r + (v : Int)) := ⟨by omega, by omega⟩
        by_cases h5 : q + 2 ≤ b.length
        · rw [decide_eq_true h5] at hu2
          have hIo5 := hIo.below (bl1 (.cells #[.int .i64 (r + (v : Int))] 3))
          have hN := heap_alloc_new wr (.cells #[.int .i64 (r + (v : Int))] 3)
          have n0 := cell_of_row _ wr.heap.size 0 _ _ (0, 0) hN
          have hbs : w.heap.size ≤ (wr.alloc (.cells #[.int .i64 (r + (v : Int))] 3)).heap.size := Nat.le_trans hbW.size (bl1 _).size
          clear hN
          go_wp2_with fail
          refine hu.mono ?_
          rintro e w1 ⟨rfl, rfl⟩
          clear hu
          go_wp2_with fail
          refine hu2.mono ?_
          rintro e w1 ⟨rfl, rfl⟩
          clear hu2
          go_wp2_with (at_builtin; refine wpList_append_int rfl _ _ rfl w.heap.size _ ys rfl hIo5 wr.heap.size (r + (v : Int)) rfl n0 hzi hll hbs ?_)
          intro v' w9 hI9 hgrow
          have hB9 : Below w.heap.size w w9 := (hbW.alloc hbW.size _).grown hgrow hbs (fun k hk => hIo.lo hk)
          clear hgrow hIo5 n0 hbs hll hIo hbW
          have HY2 : Hid (ys ++ [r + (v : Int)] = sums 0 (ds ++ runV RPt b (h / 128) (p + 1) (j + 1))) := by show _ = _; rw [HSC.out, sums_snoc, HYS.out, HR.out]
          have HR2 : Hid (r + (v : Int) = lastS 0 (ds ++ runV RPt b (h / 128) (p + 1) (j + 1))) := by show _ = _; rw [HSC.out, lastS_snoc, HR.out]
          rw [HY2.out] at hI9
          go_wp2
          go_roundw
          case rel => exact .inl ⟨j + 1, q + 2, _, by omega, by rw [HKD.out]; exact HQ2.out.symm, by omega, h3, rfl, by go_num, rfl, HR2.out, by omega, by omega, by go_num, hI9, hB9⟩
          case measure => simp [intOf, mOk]; omega
        · rw [decide_eq_false h5] at hu2
          have HNO : Hid (rpO b = none) := HBD2.out (by omega)
          have hIo5 := hIo.below (bl1 (.cells #[.int .i64 (r + (v : Int))] 3))
          have hN := heap_alloc_new wr (.cells #[.int .i64 (r + (v : Int))] 3)
          have n0 := cell_of_row _ wr.heap.size 0 _ _ (0, 0) hN
          have hbs : w.heap.size ≤ (wr.alloc (.cells #[.int .i64 (r + (v : Int))] 3)).heap.size := Nat.le_trans hbW.size (bl1 _).size
          clear hN
          go_wp2_with fail
          refine hu.mono ?_
          rintro e w1 ⟨rfl, rfl⟩
          clear hu
          go_wp2_with fail
          refine hu2.mono ?_
          rintro e w1 ⟨rfl, rfl⟩
          clear hu2
          go_wp2_with (at_builtin; refine wpList_append_int rfl _ _ rfl w.heap.size _ ys rfl hIo5 wr.heap.size (r + (v : Int)) rfl n0 hzi hll hbs ?_)
          intro v' w9 hI9 hgrow
          have hB9 : Below w.heap.size w w9 := (hbW.alloc hbW.size _).grown hgrow hbs (fun k hk => hIo.lo hk)
          clear hgrow hIo5 n0 hbs hll hIo hbW
          go_wp2
          go_roundw
          case rel => exact .inr ⟨_, _, _, j + 1, rfl, rfl, rfl, by go_num, HNO.out, hI9, hB9⟩
          case measure => simp [intOf, mOk]

end Go.Proofs.Ytngkckannclcmaa
