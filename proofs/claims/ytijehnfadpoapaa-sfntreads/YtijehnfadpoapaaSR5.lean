/-
  foundryref04.Same of any two; foundryref05: Pack, Unpack, Same: the walks.
-/
import Derived.Test.YtijehnfadpoapaaSR4
namespace Go.Proofs.Ytijehnfadpoapaa
open Go.RowKit Go.Maps
set_option linter.unusedSimpArgs false
set_option linter.unusedVariables false

theorem list_diff {xs ys : List Nat} (hl : xs.length = ys.length) (h : ∀ k, k < xs.length → xs.getD k 0 = ys.getD k 0) : xs = ys := by
  apply List.ext_getElem hl
  intro i h1 h2
  have := h i h1
  simpa [List.getD, h1, h2] using this

set_option maxHeartbeats 1000000 in
set_option maxRecDepth 100000 in
theorem same8g_any (a b : Option Addr) (ca cb : Nat) (xs ys : List Nat) (w : World) (ha : Rb w a ca xs) (hb : Rb w b cb ys) :
    Calls Try.prog 16 #[.slice a xs.length ca, .slice b ys.length cb] w fun e w' => e = .returned (.bool (decide (xs = ys))) ∧ Below w.heap.size w w' := by
  by_cases hl : xs.length = ys.length
  rotate_left
  · have hne : ((xs.length : Int) != (ys.length : Int)) = true := by simp; omega
    have hd : decide (xs = ys) = false := decide_eq_false (fun e => hl (by rw [e]))
    rw [hd]
    go_enter Try.func16, Try.ntmps16
    go_wp2
    go_ret
    exact ⟨rfl, Below.refl _ _⟩
  have k1 := ha.le
  have k2 := ha.cap
  unfold maxLen at k2
  have fa := ha.fm
  have fb := hb.fm
  clear ha hb
  have HL : Hid (xs.length = ys.length) := hl
  have hne : ((xs.length : Int) != (ys.length : Int)) = false := by simp; omega
  obtain ⟨ly, hly⟩ : ∃ ly, ys.length = ly := ⟨_, rfl⟩
  rw [hly] at hl hne ⊢
  have HLY : Hid (ys.length = ly) := hly
  subst hl
  clear hly
  have HD : Hid (∀ B : Bool, decide (xs = ys) = B → decide (xs = ys) = B) := fun _ h => h
  generalize hD : decide (xs = ys) = D at *
  have HDD : Hid (decide (xs = ys) = D) := hD
  clear hD HD
  go_enter Try.func16, Try.ntmps16
  go_wp2
  go_loopw [5] (fun i wr => ∃ k : Nat, k ≤ xs.length ∧ i = .int .i64 k ∧ (∀ j, j < k → xs.getD j 0 = ys.getD j 0) ∧ Below w.heap.size w wr) (fun i _ => xs.length - (intOf i).toNat)
  case atStart => exact ⟨0, Nat.zero_le _, rfl, fun j hj => by omega, Below.refl _ _⟩
  case round =>
    obtain ⟨k, hk, rfl, hall, hnx⟩ := hrel
    have HALL : Hid (∀ j, j < k → xs.getD j 0 = ys.getD j 0) := hall
    clear hall
    by_cases hkn : k < xs.length
    · obtain ⟨b1, o1, rfl, _, c1⟩ := fa.at hnx k hkn
      obtain ⟨b2, o2, rfl, _, c2⟩ := fb.at hnx k (by rw [HLY.out]; exact hkn)
      obtain ⟨x, hx⟩ : ∃ x, xs.getD k 0 = x := ⟨_, rfl⟩
      obtain ⟨y, hy⟩ : ∃ y, ys.getD k 0 = y := ⟨_, rfl⟩
      rw [hx] at c1
      rw [hy] at c2
      have HX : Hid (xs.getD k 0 = x) := hx
      have HY : Hid (ys.getD k 0 = y) := hy
      clear hx hy
      have i1 : (0 : Int) ≤ (k : Int) := by omega
      have i2 : (k : Int) < (xs.length : Int) := by omega
      by_cases hxy : x = y
      · subst hxy
        have hxx : ((x : Int) != (x : Int)) = false := by simp
        go_wp2_with fail
        go_quiet (fail)
        go_wp2
        go_roundw
        case rel =>
          refine ⟨k + 1, by omega, by go_num, fun j hj => ?_, below_drewN hnx _⟩
          rcases Nat.lt_or_ge j k with h1 | h1
          · exact HALL.out j h1
          · rw [show j = k by omega, HX.out, HY.out]
        case measure => simp [intOf]; omega
      · have hxx : ((x : Int) != (y : Int)) = true := by simp; omega
        have hDf : D = false := by
          rw [← HDD.out]
          refine decide_eq_false (fun e => ?_)
          have h1 := HX.out
          rw [e, HY.out] at h1
          exact hxy h1.symm
        clear hxy
        go_wp2_with fail
        go_quiet (fail)
        go_wp2
        go_ret
        exact ⟨rt_bool (by rw [hDf]), below_drewN hnx _⟩
    · obtain rfl : k = xs.length := by omega
      have hDt : D = true := by
        rw [← HDD.out]
        exact decide_eq_true (list_diff (by rw [HLY.out]) HALL.out)
      go_wp2
      go_ret
      exact ⟨rt_bool (by rw [hDt]), hnx⟩

/-- What is packed, and what is told. -/
def pckE (l : List Tb) : Int := if frB l then (if 1048576 < (fileS l).length then 3 else 0) else 1
def pckB (l : List Tb) : List Nat := if frB l then (if 1048576 < (fileS l).length then [] else fileS l) else []

set_option maxHeartbeats 1000000 in
set_option maxRecDepth 100000 in
theorem spack_any (a : Option Addr) (cap : Nat) (l : List Tb) (w : World) (h : Ts w a cap l) :
    Calls Try.prog 12 #[.slice a l.length cap] w fun e w' => ∃ a' cap', e = .returned (.tuple #[.slice a' (pckB l).length cap', .int .i64 (pckE l)]) ∧ Rw 5 w.heap.size w' a' cap' (pckB l) ∧ Below w.heap.size w w' := by
  go_enter Try.func12, Try.ntmps12
  go_wp2_with fail
  refine (sformed_any a cap l _ h).mono ?_
  rintro e u ⟨rfl, hB⟩
  by_cases hf : frB l = true
  · rw [hf]
    have hfr := frB_iff.1 hf
    go_wp2_with fail
    refine (file_any a cap l _ (h.below hB) hfr).mono ?_
    rintro e u2 ⟨a2, c2, rfl, hr, hB2⟩
    have hB3 := hB.trans (hB2.mono hB.size)
    have HR : Hid (Rw 5 u.heap.size u2 a2 c2 (fileS l)) := hr
    obtain ⟨L, hL⟩ : ∃ L, (fileS l).length = L := ⟨_, rfl⟩
    rw [hL]
    have HL : Hid ((fileS l).length = L) := hL
    clear hL hr
    by_cases hlong : 1048576 < L
    · have e1 : Hid (pckE l = 3) := by show pckE l = 3; simp [pckE, hf, HL.out, hlong]
      have e2 : Hid (pckB l = []) := by show pckB l = []; simp [pckB, hf, HL.out, hlong]
      have g1 : (1048576 : Int) < (L : Int) := by omega
      go_wp2
      go_ret2
      exact ⟨none, 0, by rw [e1.out, e2.out]; rfl, by rw [e2.out]; exact Rw.nil _ _, hB3⟩
    · have e1 : Hid (pckE l = 0) := by show pckE l = 0; simp [pckE, hf, HL.out, hlong]
      have e2 : Hid (pckB l = fileS l) := by show pckB l = fileS l; simp [pckB, hf, HL.out, hlong]
      have e3 : Hid ((pckB l).length = L) := by show (pckB l).length = L; rw [e2.out, HL.out]
      have hR9 : Hid (Rw 5 w.heap.size u2 a2 c2 (pckB l)) := by show Rw 5 w.heap.size u2 a2 c2 (pckB l); rw [e2.out]; exact HR.out.mono hB.size
      have g1 : ¬ (1048576 : Int) < (L : Int) := by omega
      clear hlong
      go_wp2
      go_ret2
      refine ⟨a2, c2, ?_, hR9.out, hB3⟩
      rw [e1.out, e3.out]
      exact rt_two rfl rfl
  · have hf : frB l = false := by simpa using hf
    rw [hf]
    have e1 : Hid (pckE l = 1) := by show pckE l = 1; simp [pckE, hf]
    have e2 : Hid (pckB l = []) := by show pckB l = []; simp [pckB, hf]
    go_wp2
    go_ret2
    exact ⟨none, 0, by rw [e1.out, e2.out]; rfl, by rw [e2.out]; exact Rw.nil _ _, hB⟩

/-- What is unpacked, and what is told. -/
def filB (b : List Nat) : Bool := frB (dirB b) && decide (fileS (dirB b) = b)
theorem filB_iff {b : List Nat} : filB b = true ↔ Fil b := by
  unfold filB Fil
  rw [Bool.and_eq_true, frB_iff, decide_eq_true_iff]
def unpE (b : List Nat) : Int := if 1048576 < b.length then 3 else if filB b then 0 else 2
def unpL (b : List Nat) : List Tb := if 1048576 < b.length then [] else if filB b then dirB b else []
theorem dirB_snoc (b : List Nat) (k : Nat) : (List.range (k + 1)).map (tabAt b) = (List.range k).map (tabAt b) ++ [tabAt b k] := by
  rw [List.range_succ, List.map_append]
  rfl

theorem tgV_size (xs : List Nat) (p : Int) : (tgV xs p).size ≤ maxLen := by
  unfold tgV
  split
  · rename_i h
    have hi : inB xs.length p 4 = true := by simp [tgB] at h; exact h.1
    rw [size_str8, cutV_yes hi]
    simp [maxLen]
    omega
  · simp [maxLen, ByteArray.size]

set_option maxHeartbeats 2000000 in
set_option maxRecDepth 100000 in
theorem sunpack_any (a : Option Addr) (cap : Nat) (xs : List Nat) (w : World) (h : Rb w a cap xs) :
    Calls Try.prog 22 #[.slice a xs.length cap] w fun e w' => ∃ a' cap', e = .returned (.tuple #[.slice a' (unpL xs).length cap', .int .i64 (unpE xs)]) ∧ Ts w' a' cap' (unpL xs) ∧ Below w.heap.size w w' := by
  obtain ⟨i0, hi, hz0, hz1, hz2⟩ := info_parts info_tab
  have k1 := h.le
  have k2 := h.cap
  unfold maxLen at k2
  by_cases hlong : 1048576 < xs.length
  · have e1 : Hid (unpE xs = 3) := by show unpE xs = 3; simp [unpE, hlong]
    have e2 : Hid (unpL xs = []) := by show unpL xs = []; simp [unpL, hlong]
    have g1 : (1048576 : Int) < (xs.length : Int) := by omega
    go_enter Try.func22, Try.ntmps22
    go_wp2
    go_ret2
    exact ⟨none, 0, by rw [e1.out, e2.out]; rfl, by rw [e2.out]; exact Ts.nil _ _ _ (Nat.zero_le _), Below.refl _ _⟩
  have g1 : ¬ (1048576 : Int) < (xs.length : Int) := by omega
  have HE : Hid (unpE xs = if filB xs then 0 else 2) := by show unpE xs = _; simp [unpE, hlong]
  have HU : Hid (unpL xs = if filB xs then dirB xs else []) := by show unpL xs = _; simp [unpL, hlong]
  have HH : Hid (Rb w a cap xs) := h
  go_enter Try.func22, Try.ntmps22
  go_wp2_with fail
  refine (su16_any a cap xs 4 _ h ⟨by decide, by decide⟩).mono ?_
  rintro e u ⟨rfl, rfl⟩
  have hcn : Hid (cntB xs = min (nmV xs 4 2) 33) := rfl
  have hnb := nmV_lt h.lim 4 2
  obtain ⟨n, hn⟩ : ∃ n, nmV xs 4 2 = n := ⟨_, rfl⟩
  rw [hn] at hnb ⊢
  have HN : Hid (nmV xs 4 2 = n) := hn
  have hnb' : n < 65536 := hnb
  clear hn hnb h
  go_wp2
  go_loopw [6, 7] (fun v i wr => ∃ k : Nat, k ≤ n ∧ k ≤ 33 ∧ i = .int .i64 k ∧ (∃ G, (∀ j, j < w.heap.size → G j) ∧ To 65 w.heap.size G wr v ((List.range k).map (tabAt xs))) ∧ Below w.heap.size w wr) (fun _ i _ => 33 - (intOf i).toNat)
  case atStart => exact ⟨0, Nat.zero_le _, Nat.zero_le _, rfl, ⟨(· < w.heap.size), fun j hj => hj, To.nil _ _ _ _ (fun k hk => hk)⟩, Below.refl _ _⟩
  case round =>
    obtain ⟨k, hk, hk33, rfl, ⟨G, hG0, hT⟩, hB⟩ := hrel
    obtain ⟨a2, c2, rfl, hts, hlo⟩ := hT.slice
    have hlen : ((List.range k).map (tabAt xs)).length = k := by simp
    rw [hlen] at hT ⊢
    have HT : Hid (To 65 w.heap.size G wr (.slice a2 k c2) ((List.range k).map (tabAt xs))) := hT
    have HTS : Hid (Ts wr a2 c2 ((List.range k).map (tabAt xs))) := hts
    clear hT hts hlen
    by_cases hgo : k < n ∧ k < 33
    · obtain ⟨hkn, hk3⟩ := hgo
      have HTB : Hid (tabAt xs k = ⟨tgV xs (12 + 16 * (k : Int)), cutV xs ((nmV xs (20 + 16 * (k : Int)) 4 : Nat) : Int) ((nmV xs (24 + 16 * (k : Int)) 4 : Nat) : Int)⟩) := by
        show tabAt xs k = _
        rw [tabAt, show ((12 + 16 * k : Nat) : Int) = 12 + 16 * (k : Int) by omega, show ((20 + 16 * k : Nat) : Int) = 20 + 16 * (k : Int) by omega, show ((24 + 16 * k : Nat) : Int) = 24 + 16 * (k : Int) by omega]
      have htz := tgV_size xs (12 + 16 * (k : Int))
      have hab := nmV_lt HH.out.lim (20 + 16 * (k : Int)) 4
      have hsb := nmV_lt HH.out.lim (24 + 16 * (k : Int)) 4
      go_wp2_with fail
      refine (stag_any a cap xs (12 + 16 * (k : Int)) _ (HH.out.below hB) ⟨by omega, by omega⟩ (by omega)).mono ?_
      rintro e v1 ⟨rfl, hb1⟩
      generalize tgV xs (12 + 16 * (k : Int)) = tx at *
      generalize tgB xs (12 + 16 * (k : Int)) = tq
      have hB1 := hB.trans (hb1.mono hB.size)
      go_wp2_with fail
      refine (su32_any a cap xs (20 + 16 * (k : Int)) _ (HH.out.below hB1) ⟨by omega, by omega⟩).mono ?_
      rintro e v2 ⟨rfl, rfl⟩
      generalize nmV xs (20 + 16 * (k : Int)) 4 = pa at *
      generalize inB xs.length (20 + 16 * (k : Int)) 4 = pq
      go_wp2_with fail
      refine (su32_any a cap xs (24 + 16 * (k : Int)) _ (HH.out.below hB1) ⟨by omega, by omega⟩).mono ?_
      rintro e v2 ⟨rfl, rfl⟩
      generalize nmV xs (24 + 16 * (k : Int)) 4 = ps at *
      generalize inB xs.length (24 + 16 * (k : Int)) 4 = sq
      have hab' : pa < 4294967296 := hab
      have hsb' : ps < 4294967296 := hsb
      clear hab hsb
      go_wp2_with fail
      refine (scut_any a cap xs (pa : Int) (ps : Int) _ (HH.out.below hB1) ⟨by omega, by omega⟩ ⟨by omega, by omega⟩ (by omega)).mono ?_
      rintro e v4 ⟨a5, c5, rfl, hr5, hb4⟩
      generalize cutV xs (pa : Int) (ps : Int) = zs at *
      generalize inB xs.length (pa : Int) (ps : Int) = zq
      have hb5 : Below wr.heap.size wr v4 := hb1.trans (hb4.mono hb1.size)
      have hB4 : Below w.heap.size w v4 := hB.trans (hb5.mono hB.size)
      have hG5 : zs ≠ [] → ∀ b o, a5 = some ⟨b, o, none⟩ → (G b ∨ (wr.heap.size ≤ b ∧ b < v4.heap.size)) := by
        intro hne b o eb
        have h1 := hr5.rd.lt hne b o eb
        have h2 := hr5.low b (by rw [eb]; rfl)
        exact .inr ⟨Nat.le_trans hb1.size h2, h1⟩
      have hT5 := (HT.out.wide hb5).below (bl1 (.cells #[.string tx, .slice a5 zs.length c5] 65))
      have hr6 := hr5.rd.below (bl1 (.cells #[.string tx, .slice a5 zs.length c5] 65))
      clear hr5
      go_wp2_with (at_builtin; refine wpList_append_tab rfl _ _ 30 rfl w.heap.size 65 i0 Try.underlying30 hi hz0 hz1 hz2 _ _ ((List.range k).map (tabAt xs)) rfl hT5 v4.heap.size ⟨tx, zs⟩ a5 c5 rfl ?_ ?_ htz hr6 hG5 (by simp; omega) ?_ ?_)
      · have := hB4.size
        simp
        omega
      · intro v' w9 hT9 hgrow hat
        have hB9 : Below w.heap.size w w9 := (hB4.alloc hB4.size _).grown hgrow (by have := hB4.size; simp; omega) (fun k hk => (HT.out.lt hk).2)
        rw [← HTB.out, ← dirB_snoc] at hT9
        clear hgrow hat hT5 hr6 hG5
        go_wp2
        go_roundw
        case rel => exact ⟨k + 1, by omega, by omega, by go_num, ⟨_, fun j hj => .inl (hG0 j hj), hT9⟩, hB9⟩
        case measure => simp [intOf]; omega
    · have HCK : Hid (cntB xs = k) := by have := hcn.out; have := HN.out; show cntB xs = k; omega
      have HDB : Hid (dirB xs = (List.range k).map (tabAt xs)) := by show dirB xs = _; rw [dirB, HCK.out]
      have HLN : Hid ((dirB xs).length = k) := by show (dirB xs).length = k; rw [HDB.out]; simp
      have hts := HTS.out
      rw [← HDB.out] at hts
      have HFB : Hid (filB xs = (frB (dirB xs) && decide (fileS (dirB xs) = xs))) := rfl
      have hF := sformed_any a2 c2 (dirB xs) wr hts
      have hFi := file_any a2 c2 (dirB xs)
      rw [HLN.out] at hF hFi
      have HFI : Hid (∀ (w : World), Ts w a2 c2 (dirB xs) → Frm (dirB xs) → Calls Try.prog 34 #[.slice a2 k c2] w fun e w' => ∃ a' cap', e = .returned (.slice a' (fileS (dirB xs)).length cap') ∧ Rw 5 w.heap.size w' a' cap' (fileS (dirB xs)) ∧ Below w.heap.size w w') := hFi
      have HF : Hid (Calls Try.prog 20 #[.slice a2 k c2] wr fun e w' => e = .returned (.bool (frB (dirB xs))) ∧ Below wr.heap.size wr w') := hF
      have HT9 : Hid (Ts wr a2 c2 (dirB xs)) := hts
      clear hF hFi hts HTS HT HDB
      by_cases hkn : k < n
      · have hk3 : k = 33 := by omega
        subst hk3
        go_wp2_with fail
        refine HF.out.mono ?_
        rintro e u ⟨rfl, hbF⟩
        by_cases hf : frB (dirB xs) = true
        · rw [hf]
          have hfr := frB_iff.1 hf
          go_wp2_with fail
          refine (HFI.out _ (HT9.out.below hbF) hfr).mono ?_
          rintro e u2 ⟨a3, c3, rfl, hr3, hb3⟩
          have HFS : Hid (filB xs = decide (fileS (dirB xs) = xs)) := by show filB xs = _; rw [HFB.out, hf, Bool.true_and]
          have hbA : Below wr.heap.size wr u2 := hbF.trans (hb3.mono hbF.size)
          have hrx := HH.out.below (hB.trans (hbA.mono hB.size))
          have hry := hr3.rd
          generalize fileS (dirB xs) = fs at *
          clear hr3 hfr
          go_wp2_with fail
          refine (same8g_any a3 a c3 cap fs xs _ hry hrx).mono ?_
          rintro e u3 ⟨rfl, hb4⟩
          have hbZ : Below wr.heap.size wr u3 := hbA.trans (hb4.mono hbA.size)
          have hBZ := hB.trans (hbZ.mono hB.size)
          by_cases hsm : fs = xs
          · have hd := decide_eq_true hsm
            have hu1 : Hid (unpE xs = 0) := by show unpE xs = 0; rw [HE.out, HFS.out, hd]; rfl
            have hu2 : Hid (unpL xs = dirB xs) := by show unpL xs = dirB xs; rw [HU.out, HFS.out, hd]; rfl
            rw [hd]
            clear hd hsm HFS hry
            go_wp2
            go_ret2
            refine ⟨a2, c2, ?_, ?_, hBZ⟩
            · rw [hu1.out, hu2.out, HLN.out]
              exact rt_two rfl rfl
            · rw [hu2.out]
              exact HT9.out.below hbZ
          · have hd := decide_eq_false hsm
            have hu1 : Hid (unpE xs = 2) := by show unpE xs = 2; rw [HE.out, HFS.out, hd]; rfl
            have hu2 : Hid (unpL xs = []) := by show unpL xs = []; rw [HU.out, HFS.out, hd]; rfl
            rw [hd]
            clear hd hsm HFS hry
            go_wp2
            go_ret2
            exact ⟨none, 0, by rw [hu1.out, hu2.out]; rfl, by rw [hu2.out]; exact Ts.nil _ _ _ (Nat.zero_le _), hBZ⟩
        · have hf : frB (dirB xs) = false := by simpa using hf
          have HFS : Hid (filB xs = false) := by show filB xs = false; rw [HFB.out, hf, Bool.false_and]
          have hu1 : Hid (unpE xs = 2) := by show unpE xs = 2; rw [HE.out, HFS.out]; rfl
          have hu2 : Hid (unpL xs = []) := by show unpL xs = []; rw [HU.out, HFS.out]; rfl
          have hBZ := hB.trans (hbF.mono hB.size)
          rw [hf]
          go_wp2
          go_ret2
          exact ⟨none, 0, by rw [hu1.out, hu2.out]; rfl, by rw [hu2.out]; exact Ts.nil _ _ _ (Nat.zero_le _), hBZ⟩
      · obtain rfl : k = n := by omega
        go_wp2_with fail
        refine HF.out.mono ?_
        rintro e u ⟨rfl, hbF⟩
        by_cases hf : frB (dirB xs) = true
        · rw [hf]
          have hfr := frB_iff.1 hf
          go_wp2_with fail
          refine (HFI.out _ (HT9.out.below hbF) hfr).mono ?_
          rintro e u2 ⟨a3, c3, rfl, hr3, hb3⟩
          have HFS : Hid (filB xs = decide (fileS (dirB xs) = xs)) := by show filB xs = _; rw [HFB.out, hf, Bool.true_and]
          have hbA : Below wr.heap.size wr u2 := hbF.trans (hb3.mono hbF.size)
          have hrx := HH.out.below (hB.trans (hbA.mono hB.size))
          have hry := hr3.rd
          generalize fileS (dirB xs) = fs at *
          clear hr3 hfr
          go_wp2_with fail
          refine (same8g_any a3 a c3 cap fs xs _ hry hrx).mono ?_
          rintro e u3 ⟨rfl, hb4⟩
          have hbZ : Below wr.heap.size wr u3 := hbA.trans (hb4.mono hbA.size)
          have hBZ := hB.trans (hbZ.mono hB.size)
          by_cases hsm : fs = xs
          · have hd := decide_eq_true hsm
            have hu1 : Hid (unpE xs = 0) := by show unpE xs = 0; rw [HE.out, HFS.out, hd]; rfl
            have hu2 : Hid (unpL xs = dirB xs) := by show unpL xs = dirB xs; rw [HU.out, HFS.out, hd]; rfl
            rw [hd]
            clear hd hsm HFS hry
            go_wp2
            go_ret2
            refine ⟨a2, c2, ?_, ?_, hBZ⟩
            · rw [hu1.out, hu2.out, HLN.out]
              exact rt_two rfl rfl
            · rw [hu2.out]
              exact HT9.out.below hbZ
          · have hd := decide_eq_false hsm
            have hu1 : Hid (unpE xs = 2) := by show unpE xs = 2; rw [HE.out, HFS.out, hd]; rfl
            have hu2 : Hid (unpL xs = []) := by show unpL xs = []; rw [HU.out, HFS.out, hd]; rfl
            rw [hd]
            clear hd hsm HFS hry
            go_wp2
            go_ret2
            exact ⟨none, 0, by rw [hu1.out, hu2.out]; rfl, by rw [hu2.out]; exact Ts.nil _ _ _ (Nat.zero_le _), hBZ⟩
        · have hf : frB (dirB xs) = false := by simpa using hf
          have HFS : Hid (filB xs = false) := by show filB xs = false; rw [HFB.out, hf, Bool.false_and]
          have hu1 : Hid (unpE xs = 2) := by show unpE xs = 2; rw [HE.out, HFS.out]; rfl
          have hu2 : Hid (unpL xs = []) := by show unpL xs = []; rw [HU.out, HFS.out]; rfl
          have hBZ := hB.trans (hbF.mono hB.size)
          rw [hf]
          go_wp2
          go_ret2
          exact ⟨none, 0, by rw [hu1.out, hu2.out]; rfl, by rw [hu2.out]; exact Ts.nil _ _ _ (Nat.zero_le _), hBZ⟩

end Go.Proofs.Ytijehnfadpoapaa
