/-
  store.Read: the walk.
-/
import Derived.Test.YtjefaccpmoignaaZ11
import Derived.Test.YtjefaccpmoignaaZ22
import Derived.Test.YtjefaccpmoignaaZ8
import Derived.Deep.CutRange
namespace Go.Proofs.Ytjefaccpmoignaa
open Go.RowKit Go.Maps
set_option linter.unusedSimpArgs false
set_option linter.unusedVariables false

theorem BxS.grown {w w' : World} {g : Nat} {x y : Value} {row : Option Nat} (h : BxS w g x y) (hg : w.grownBy w' row) (hn : some g ≠ row) : BxS w' g x y := (hg.block g h.lt hn).trans h
theorem BxS.otherB {w w' : World} {g : Nat} {x y : Value} (h : BxS w g x y) {G : Nat} (hg : g ≠ G) (hb : ∀ b, b ≠ G → w'.heap[b]? = w.heap[b]?) : BxS w' g x y := (hb g hg).trans h
/-- A store into a store's block. -/
theorem setS0_world {u : World} {g : Nat} {x y : Value} (X : BxS u g x y) (z : Value) : ∃ U, U = u.setCell ⟨g, 0, none⟩ z ∧ BxS U g z y ∧ (∀ B w, Below B w u → B ≤ g → Below B w U) ∧ (∀ j, j ≠ g → U.heap[j]? = u.heap[j]?) ∧ U.heap.size = u.heap.size :=
  ⟨_, rfl, X.set0 z, fun _ _ h hb => h.setCell (p := ⟨g, 0, none⟩) hb z, fun j hj => Below.heap_setCell _ ⟨g, 0, none⟩ z j hj, by simp [World.setCell]⟩
theorem setS1_world {u : World} {g : Nat} {x y : Value} (X : BxS u g x y) (z : Value) : ∃ U, U = u.setCell ⟨g, 1, none⟩ z ∧ BxS U g x z ∧ (∀ B w, Below B w u → B ≤ g → Below B w U) ∧ (∀ j, j ≠ g → U.heap[j]? = u.heap[j]?) ∧ U.heap.size = u.heap.size :=
  ⟨_, rfl, X.set1 z, fun _ _ h hb => h.setCell (p := ⟨g, 1, none⟩) hb z, fun j hj => Below.heap_setCell _ ⟨g, 1, none⟩ z j hj, by simp [World.setCell]⟩
theorem setS2_world {u : World} {g : Nat} {x y : Value} (X : BxS u g x y) (z z' : Value) : ∃ U, U = (u.setCell ⟨g, 0, none⟩ z).setCell ⟨g, 1, none⟩ z' ∧ BxS U g z z' ∧ (∀ B w, Below B w u → B ≤ g → Below B w U) ∧ (∀ j, j ≠ g → U.heap[j]? = u.heap[j]?) ∧ U.heap.size = u.heap.size := by
  obtain ⟨U, rfl, h1, h2, h3, h4⟩ := setS0_world X z
  obtain ⟨V, hV, k1, k2, k3, k4⟩ := setS1_world h1 z'
  exact ⟨V, hV, k1, fun B w h hb => k2 B w (h2 B w h hb) hb, fun j hj => (k3 j hj).trans (h3 j hj), k4.trans h4⟩
theorem rdS_bad {b : List Nat} (h : rdSB b = false) : rdSE b = 2 ∧ rdSN b = 0 ∧ (rdSL b).rg = [] ∧ (rdSL b).rw = [] := by
  simp [rdSE, rdSN, rdSL, h]
theorem rdS_good {b : List Nat} (hb : Byt b) (h : rdSB b = true) : rdSE b = 0 ∧ rdSN b = (axN b : Int) ∧ rdSL b = cdS b := by
  refine ⟨by simp [rdSE, h], by simp [rdSN, h], ?_⟩
  rw [rdSL, if_pos h, rd_codeS hb h]

set_option maxHeartbeats 8000000 in
set_option maxRecDepth 100000 in
theorem creadS_any (a : Option Addr) (cap : Nat) (xs : List Nat) (w : World) (h : Rb w a cap xs) (hlx : xs.length ≤ 1000000000) :
    Calls Try.prog 12 #[.slice a xs.length cap] w fun e w' => ∃ a1 c1 b1 d1, e = .returned (.tuple #[.agg #[.slice a1 (rdSL xs).rg.length c1, .slice b1 (rdSL xs).rw.length d1], .int .i64 (rdSN xs), .int .i64 (rdSE xs)]) ∧ Tzz w' a1 c1 (rdSL xs).rg ∧ Rii w' b1 d1 (rdSL xs).rw ∧ Below w.heap.size w w' := by
  have k1 := h.le
  have k2 := h.cap
  unfold maxLen at k2
  have HH : Hid (Rb w a cap xs) := h
  have HBY : Hid (Byt xs) := h.lim
  have HBAD : Hid (rdSB xs = false → rdSE xs = 2 ∧ rdSN xs = 0 ∧ (rdSL xs).rg = [] ∧ (rdSL xs).rw = []) := rdS_bad
  have HCD : Hid (rdSB xs = true ↔ cdB xs ∧ stB (cdS xs) (axN xs : Int) = true) := rd_code h.lim
  have HGOOD : Hid (rdSB xs = true → rdSE xs = 0 ∧ rdSN xs = (axN xs : Int) ∧ rdSL xs = cdS xs) := rdS_good h.lim
  have hu0 := fun U hU => u16_any a cap xs 0 U hU ⟨by decide, by decide⟩
  have hu2 := fun U hU => u16_any a cap xs 2 U hU ⟨by decide, by decide⟩
  have hn0 : nmV xs 0 2 < 65536 := nmV_lt h.lim 0 2
  have hn2 : nmV xs 2 2 < 65536 := nmV_lt h.lim 2 2
  obtain ⟨ax, hax⟩ : ∃ n, nmV xs 0 2 = n := ⟨_, rfl⟩
  obtain ⟨rg, hrg⟩ : ∃ n, nmV xs 2 2 = n := ⟨_, rfl⟩
  have HAX : Hid (axN xs = ax) := hax
  have HRG : Hid (rgN xs = rg) := hrg
  simp only [hax] at hu0 hn0
  simp only [hrg] at hu2 hn2
  generalize inB xs.length 0 2 = i0 at *
  generalize inB xs.length 2 2 = i2 at *
  obtain ⟨W, hW, R0, hbW⟩ : ∃ W, W = w.alloc (.cells #[.slice none 0 0, .slice none 0 0] 25) ∧ BxS W w.heap.size (.slice none 0 0) (.slice none 0 0) ∧ Below w.heap.size w W := ⟨_, rfl, BxS.new _ _ _, bl1 _⟩
  have hh := h.below hbW
  clear h hax hrg
  have HNOB : Hid (¬ (cdB xs ∧ stB (cdS xs) (axN xs : Int) = true) → rdSE xs = 2 ∧ rdSN xs = 0 ∧ (rdSL xs).rg = [] ∧ (rdSL xs).rw = []) := fun hn => HBAD.out (Bool.eq_false_iff.2 (fun e => hn (HCD.out.1 e)))
  by_cases h4 : 4 < ax ∨ 40 < rg
  · have HE : Hid (rdSE xs = 2 ∧ rdSN xs = 0 ∧ (rdSL xs).rg = [] ∧ (rdSL xs).rw = []) := HNOB.out (fun hh => by have h1 := hh.1.1; have h2 := hh.1.2.1; rw [HAX.out] at h1; rw [HRG.out] at h2; omega)
    by_cases h5 : 4 < ax
    · have g1 : decide ((4 : Int) < (ax : Int)) = true := decide_eq_true (by omega)
      clear h4 h5
      go_enter Try.func12, Try.ntmps12
      go_wp2_with fail
      rw [← hW]
      clear hW
      refine (hu0 _ hh).mono ?_
      rintro e t1 ⟨rfl, rfl⟩
      go_wp2_with fail
      refine (hu2 _ hh).mono ?_
      rintro e t2 ⟨rfl, rfl⟩
      clear hu0 hu2
      obtain ⟨q0, q1, q2, q3⟩ := R0.cells
      have hs := R0.lt
      go_wp2
      obtain ⟨U, hU, R1, hbU, ho, hz⟩ := setS2_world R0 (.slice none 0 0) (.slice none 0 0)
      rw [← hU]
      replace hbW := hbU _ _ hbW (Nat.le_refl _)
      refine bodyPost_ret (v := .tuple #[.agg #[.slice none 0 0, .slice none 0 0], .int .i64 0, .int .i64 2]) (by obtain ⟨r1, r2, _⟩ := BxS.cells R1; simp [results, Try.results12, go_sem, r1, r2]) rfl ⟨none, 0, none, 0, by rw [HE.out.1, HE.out.2.1, HE.out.2.2.1, HE.out.2.2.2]; rfl, by rw [HE.out.2.2.1]; exact Tzz.nil _ _ _ (Nat.zero_le _), by rw [HE.out.2.2.2]; exact Rii.nil _ _ _ (Nat.zero_le _), hbW⟩
    · have g1 : decide ((4 : Int) < (ax : Int)) = false := decide_eq_false (by omega)
      have g2 : decide ((40 : Int) < (rg : Int)) = true := decide_eq_true (by omega)
      clear h4 h5
      go_enter Try.func12, Try.ntmps12
      go_wp2_with fail
      rw [← hW]
      clear hW
      refine (hu0 _ hh).mono ?_
      rintro e t1 ⟨rfl, rfl⟩
      go_wp2_with fail
      refine (hu2 _ hh).mono ?_
      rintro e t2 ⟨rfl, rfl⟩
      clear hu0 hu2
      obtain ⟨q0, q1, q2, q3⟩ := R0.cells
      have hs := R0.lt
      go_wp2
      obtain ⟨U, hU, R1, hbU, ho, hz⟩ := setS2_world R0 (.slice none 0 0) (.slice none 0 0)
      rw [← hU]
      replace hbW := hbU _ _ hbW (Nat.le_refl _)
      refine bodyPost_ret (v := .tuple #[.agg #[.slice none 0 0, .slice none 0 0], .int .i64 0, .int .i64 2]) (by obtain ⟨r1, r2, _⟩ := BxS.cells R1; simp [results, Try.results12, go_sem, r1, r2]) rfl ⟨none, 0, none, 0, by rw [HE.out.1, HE.out.2.1, HE.out.2.2.1, HE.out.2.2.2]; rfl, by rw [HE.out.2.2.1]; exact Tzz.nil _ _ _ (Nat.zero_le _), by rw [HE.out.2.2.2]; exact Rii.nil _ _ _ (Nat.zero_le _), hbW⟩
  have g1 : decide ((4 : Int) < (ax : Int)) = false := decide_eq_false (by omega)
  have g2 : decide ((40 : Int) < (rg : Int)) = false := decide_eq_false (by omega)
  have b1 : ax ≤ 4 := by omega
  have b2 : rg ≤ 40 := by omega
  obtain ⟨M, hMn⟩ : ∃ M, rg * ax = M := ⟨_, rfl⟩
  have b3 : M ≤ 160 := by rw [← hMn]; exact Nat.mul_le_mul b2 b1
  have hM : (rg : Int) * (ax : Int) = (M : Int) := by rw [← hMn, Int.natCast_mul]
  have HQ : Hid (rwQ xs = 4 + M * 6) := by show _ = _; rw [rwQ, HAX.out, HRG.out, ← hMn, Nat.mul_comm rg ax, Nat.mul_assoc]; omega
  obtain ⟨Q, hQ⟩ : ∃ Q, 4 + M * 6 = Q := ⟨_, rfl⟩
  have b4 : Q ≤ 964 := by omega
  rw [hQ] at HQ
  have hQi : 4 + (M : Int) * 6 = (Q : Int) := by omega
  have hus := fun U hU => u16_any a cap xs (Q : Int) U hU ⟨by omega, by omega⟩
  have hn3 : nmV xs (Q : Int) 2 < 65536 := nmV_lt HBY.out _ 2
  have HNR : Hid (nmV xs ((rwQ xs : Nat) : Int) 2 = nmV xs (Q : Int) 2) := by show _ = _; rw [HQ.out]
  have HIN : Hid (inB xs.length (Q : Int) 2 = decide (Q + 2 ≤ xs.length)) := by
    show _ = _
    simp only [inB]
    exact decide_eq_decide.2 ⟨fun hh => by omega, fun hh => by omega⟩
  obtain ⟨nr, hnr⟩ : ∃ n, nmV xs (Q : Int) 2 = n := ⟨_, rfl⟩
  rw [hnr] at HNR hn3
  simp only [hnr, HIN.out] at hus
  obtain ⟨K, hKn⟩ : ∃ K, nr * rg = K := ⟨_, rfl⟩
  have hK : (nr : Int) * (rg : Int) = (K : Int) := by rw [← hKn, Int.natCast_mul]
  have b5 : K ≤ 65535 * 40 := by rw [← hKn]; exact Nat.mul_le_mul (by omega) b2
  have HCB : Hid (cdB xs ↔ Q + 2 ≤ xs.length ∧ nr ≤ 400 ∧ xs.length = Q + 2 + K * 2) := by
    show _ ↔ _
    rw [cdB, HAX.out, HRG.out, HQ.out, show nmV xs ((Q : Nat) : Int) 2 = nr from hnr, ← hKn, Nat.mul_comm nr rg, Nat.mul_assoc]
    constructor
    · intro hh; exact ⟨hh.2.2.1, hh.2.2.2.1, by omega⟩
    · intro hh; exact ⟨b1, b2, hh.1, hh.2.1, by omega⟩
  have HCS : Hid (cdS xs = ⟨rgsAt xs 4 ax rg, rowsAt xs (Q + 2) rg nr⟩) := by show _ = _; rw [cdS, HAX.out, HRG.out, HQ.out, show nmV xs ((Q : Nat) : Int) 2 = nr from hnr]
  clear hMn hQ hnr hKn h4
  by_cases hcd : Q + 2 ≤ xs.length ∧ nr ≤ 400 ∧ xs.length = Q + 2 + K * 2
  rotate_left
  · have HE : Hid (rdSE xs = 2 ∧ rdSN xs = 0 ∧ (rdSL xs).rg = [] ∧ (rdSL xs).rw = []) := HNOB.out (fun hh => hcd (HCB.out.1 hh.1))
    by_cases h5 : Q + 2 ≤ xs.length
    rotate_left
    · have g3 : decide (Q + 2 ≤ xs.length) = false := decide_eq_false h5
      simp only [g3] at hus
      clear hcd h5
      go_enter Try.func12, Try.ntmps12
      go_wp2_with fail
      rw [← hW]
      clear hW
      refine (hu0 _ hh).mono ?_
      rintro e t1 ⟨rfl, rfl⟩
      go_wp2_with fail
      refine (hu2 _ hh).mono ?_
      rintro e t2 ⟨rfl, rfl⟩
      clear hu0 hu2
      go_wp2_with fail
      refine (hus _ hh).mono ?_
      rintro e t3 ⟨rfl, rfl⟩
      clear hus
      obtain ⟨q0, q1, q2, q3⟩ := R0.cells
      have hs := R0.lt
      go_wp2
      obtain ⟨U, hU, R1, hbU, ho, hz⟩ := setS2_world R0 (.slice none 0 0) (.slice none 0 0)
      rw [← hU]
      replace hbW := hbU _ _ hbW (Nat.le_refl _)
      refine bodyPost_ret (v := .tuple #[.agg #[.slice none 0 0, .slice none 0 0], .int .i64 0, .int .i64 2]) (by obtain ⟨r1, r2, _⟩ := BxS.cells R1; simp [results, Try.results12, go_sem, r1, r2]) rfl ⟨none, 0, none, 0, by rw [HE.out.1, HE.out.2.1, HE.out.2.2.1, HE.out.2.2.2]; rfl, by rw [HE.out.2.2.1]; exact Tzz.nil _ _ _ (Nat.zero_le _), by rw [HE.out.2.2.2]; exact Rii.nil _ _ _ (Nat.zero_le _), hbW⟩
    have g3 : decide (Q + 2 ≤ xs.length) = true := decide_eq_true h5
    simp only [g3] at hus
    by_cases h6 : 400 < nr
    · have g4 : decide ((400 : Int) < (nr : Int)) = true := decide_eq_true (by omega)
      clear hcd h5 h6
      go_enter Try.func12, Try.ntmps12
      go_wp2_with fail
      rw [← hW]
      clear hW
      refine (hu0 _ hh).mono ?_
      rintro e t1 ⟨rfl, rfl⟩
      go_wp2_with fail
      refine (hu2 _ hh).mono ?_
      rintro e t2 ⟨rfl, rfl⟩
      clear hu0 hu2
      go_wp2_with fail
      refine (hus _ hh).mono ?_
      rintro e t3 ⟨rfl, rfl⟩
      clear hus
      obtain ⟨q0, q1, q2, q3⟩ := R0.cells
      have hs := R0.lt
      go_wp2
      obtain ⟨U, hU, R1, hbU, ho, hz⟩ := setS2_world R0 (.slice none 0 0) (.slice none 0 0)
      rw [← hU]
      replace hbW := hbU _ _ hbW (Nat.le_refl _)
      refine bodyPost_ret (v := .tuple #[.agg #[.slice none 0 0, .slice none 0 0], .int .i64 0, .int .i64 2]) (by obtain ⟨r1, r2, _⟩ := BxS.cells R1; simp [results, Try.results12, go_sem, r1, r2]) rfl ⟨none, 0, none, 0, by rw [HE.out.1, HE.out.2.1, HE.out.2.2.1, HE.out.2.2.2]; rfl, by rw [HE.out.2.2.1]; exact Tzz.nil _ _ _ (Nat.zero_le _), by rw [HE.out.2.2.2]; exact Rii.nil _ _ _ (Nat.zero_le _), hbW⟩
    have g4 : decide ((400 : Int) < (nr : Int)) = false := decide_eq_false (by omega)
    have g5 : ((xs.length : Int) != (Q : Int) + 2 + (K : Int) * 2) = true := bne_iff_ne.2 (by omega)
    clear hcd h5 h6
    go_enter Try.func12, Try.ntmps12
    go_wp2_with fail
    rw [← hW]
    clear hW
    refine (hu0 _ hh).mono ?_
    rintro e t1 ⟨rfl, rfl⟩
    go_wp2_with fail
    refine (hu2 _ hh).mono ?_
    rintro e t2 ⟨rfl, rfl⟩
    clear hu0 hu2
    go_wp2_with fail
    refine (hus _ hh).mono ?_
    rintro e t3 ⟨rfl, rfl⟩
    clear hus
    obtain ⟨q0, q1, q2, q3⟩ := R0.cells
    have hs := R0.lt
    go_wp2
    obtain ⟨U, hU, R1, hbU, ho, hz⟩ := setS2_world R0 (.slice none 0 0) (.slice none 0 0)
    rw [← hU]
    replace hbW := hbU _ _ hbW (Nat.le_refl _)
    refine bodyPost_ret (v := .tuple #[.agg #[.slice none 0 0, .slice none 0 0], .int .i64 0, .int .i64 2]) (by obtain ⟨r1, r2, _⟩ := BxS.cells R1; simp [results, Try.results12, go_sem, r1, r2]) rfl ⟨none, 0, none, 0, by rw [HE.out.1, HE.out.2.1, HE.out.2.2.1, HE.out.2.2.2]; rfl, by rw [HE.out.2.2.1]; exact Tzz.nil _ _ _ (Nat.zero_le _), by rw [HE.out.2.2.2]; exact Rii.nil _ _ _ (Nat.zero_le _), hbW⟩
  have g3 : decide (Q + 2 ≤ xs.length) = true := decide_eq_true hcd.1
  simp only [g3] at hus
  have g4 : decide ((400 : Int) < (nr : Int)) = false := decide_eq_false (by omega)
  have g5 : ((xs.length : Int) != (Q : Int) + 2 + (K : Int) * 2) = false := bne_eq_false_iff_eq.2 (by omega)
  have b6 : nr ≤ 400 := hcd.2.1
  have HCB2 : Hid (cdB xs) := HCB.out.2 hcd
  clear hcd g3
  go_enter Try.func12, Try.ntmps12
  go_wp2_with fail
  rw [← hW]
  clear hW
  refine (hu0 _ hh).mono ?_
  rintro e t1 ⟨rfl, rfl⟩
  go_wp2_with fail
  refine (hu2 _ hh).mono ?_
  rintro e t2 ⟨rfl, rfl⟩
  clear hu0 hu2
  go_wp2_with fail
  refine (hus _ hh).mono ?_
  rintro e t3 ⟨rfl, rfl⟩
  clear hus
  obtain ⟨V, hV, X1, hbV⟩ : ∃ V, V = W.alloc (.cells #[.slice none 0 0, .slice none 0 0] 25) ∧ BxS V W.heap.size (.slice none 0 0) (.slice none 0 0) ∧ Below W.heap.size W V := ⟨_, rfl, BxS.new _ _ _, bl1 _⟩
  have hgs1 := R0.lt
  have hgs2 := X1.lt
  replace R0 := R0.below hbV
  replace hbW := hbW.trans (hbV.mono hbW.size)
  clear hbV hh
  go_wp2
  rw [← hV]
  clear hV
  generalize W.heap.size = gS at *
  clear g1 g2 g4 g5
  go_loopw [66] (fun i wr => ∃ (k : Nat) (v : Value), k ≤ rg ∧ i = .int .i64 (k : Int) ∧ BxS wr gS v (.slice none 0 0) ∧ Tq V.heap.size wr v (rgsAt xs 4 ax k) ∧ BxS wr w.heap.size (.slice none 0 0) (.slice none 0 0) ∧ Below w.heap.size w wr ∧ V.heap.size ≤ wr.heap.size) (fun i _ => rg - (intOf i).toNat)
  case atStart => exact ⟨0, _, Nat.zero_le _, rfl, X1, Tq.nil _ _, R0, hbW, Nat.le_refl _⟩
  case round =>
    clear X1 R0 hbW
    obtain ⟨k, v, hk, rfl, X1, hTq, R0, hbW, hsz⟩ := hrel
    obtain ⟨a2, c2, rfl, hts⟩ := hTq.slice
    rw [rgsAt_len] at X1 hTq
    by_cases hkn : k < rg
    · clear hts
      obtain ⟨m, hm⟩ : ∃ m, k * ax = m := ⟨_, rfl⟩
      have hmb : m ≤ 160 := by rw [← hm]; exact Nat.mul_le_mul (show k ≤ 40 by omega) b1
      have hmi : (k : Int) * (ax : Int) = (m : Int) := by rw [← hm, Int.natCast_mul]
      have HV : Hid (rgsAt xs 4 ax (k + 1) = rgsAt xs 4 ax k ++ [tesAt xs (4 + m * 6) ax]) := by show _ = _; rw [rgsAt_succ, ← hm, show 4 + 6 * ax * k = 4 + k * ax * 6 by rw [Nat.mul_comm k ax, Nat.mul_assoc]; omega]
      have hta := fun U hU => tentsAt_any a cap xs (4 + m * 6) ax U hU (by omega) (by omega)
      simp only [show ((4 + m * 6 : Nat) : Int) = 4 + (m : Int) * 6 by omega] at hta
      have hw1 : IntKind.i64.wrap (m : Int) = (m : Int) := wrapi64 (by omega) (by omega)
      have hw2 : IntKind.i64.wrap ((m : Int) * 6) = (m : Int) * 6 := wrapi64 (by omega) (by omega)
      have hw3 : IntKind.i64.wrap (4 + (m : Int) * 6) = 4 + (m : Int) * 6 := wrapi64 (by omega) (by omega)
      have HLL : Hid ((tesAt xs (4 + m * 6) ax).length = ax) := tesAt_len _ _ _
      have HT0 : Hid (Tq V.heap.size wr (.slice a2 k c2) (rgsAt xs 4 ax k)) := hTq
      have hll : (rgsAt xs 4 ax k).length + 1 ≤ 1000000 := by rw [rgsAt_len]; omega
      clear hm
      have hbR : Below wr.heap.size wr wr := Below.refl _ _
      have hh := HH.out.below hbW
      go_upto_region 14 with fail
      obtain ⟨p00, p01, _⟩ := X1.cells
      refine wp_region_held_drew (S := (fun _ => True)) (by kernel_rfl) ?_ (fun hHeld => ?_)
      · (try dsimp only)
        all_goals go_keep
      have hdr : Below wr.heap.size wr wr.drew := Below.drew1
      generalize wr.drew = ud1 at hdr hHeld ⊢
      replace R0 := R0.below hdr
      replace hTq := hTq.below hdr
      replace hh := hh.below hdr
      replace X1 := X1.below hdr
      replace hbW : Below w.heap.size w ud1 := hbW.trans (hdr.mono hbW.size)
      replace hbR : Below wr.heap.size wr ud1 := hbR.trans (hdr.mono hbR.size)
      clear hdr
      clear p00 p01
      obtain ⟨p00, p01, _⟩ := X1.cells
      refine hT 0 hHeld ?_
      refine hT 2 hHeld ?_
      refine hT 3 hHeld ?_
      refine hT 4 hHeld ?_
      refine hT 5 hHeld ?_
      refine hT 6 hHeld ?_
      refine hT 7 hHeld ?_
      refine hT 8 hHeld ?_
      refine hT 9 hHeld ?_
      refine wpAnyH_ready (rs := [1, 10]) (by kernel_rfl) (by simp) (hCons (i := 1) rfl (by rfl) (fun K hK => ?_) (hCons (i := 10) rfl (by rfl) (fun K hK => ?_) AllReadyH.nil))
      · go_simp
        refine hK.out _ _ ?_ (fun hHeld => ?_)
        · (try dsimp only)
          all_goals trivial
        clear hK K
        try simp only [Act.put, List.setIfInBounds_toArray, List.set_cons_zero, List.set_cons_succ]
        refine hCall (i := 10) rfl (by kernel_rfl) (by rfl) (fun K hK => ?_)
        go_simp
        have hcs := hbR.size
        refine (hta _ hh).mono ?_
        rintro e u1 ⟨a3, c3, rfl, hp3, hlo3, hb1⟩
        replace R0 := R0.below hb1
        replace hTq := hTq.below hb1
        replace hh := hh.below hb1
        replace X1 := X1.below hb1
        replace hbW : Below w.heap.size w u1 := hbW.trans (hb1.mono hbW.size)
        replace hbR : Below wr.heap.size wr u1 := hbR.trans (hb1.mono hbR.size)
        clear hb1
        clear p00 p01
        obtain ⟨p00, p01, _⟩ := X1.cells
        go_wp2_with fail
        refine hK.out _ _ ?_ (fun hHeld => ?_)
        · (try dsimp only)
          all_goals trivial
        clear hK K
        try simp only [Act.put, List.setIfInBounds_toArray, List.set_cons_zero, List.set_cons_succ]
        refine hCall (i := 11) rfl (by kernel_rfl) (by rfl) (fun K hK => ?_)
        go_simp
        obtain ⟨u62, hU4, C4, hb4⟩ : ∃ U4, U4 = u1.alloc (.cells #[.slice a3 ax c3] 42) ∧ Cl U4 u1.heap.size 0 (.slice a3 ax c3) ∧ Below u1.heap.size u1 U4 := ⟨_, rfl, ⟨by simp, cell_of_row _ _ 0 _ _ (0, 0) (heap_alloc_new _ _)⟩, bl1 _⟩
        rw [← hU4]
        clear hU4
        replace R0 := R0.below hb4
        replace hTq := hTq.below hb4
        replace hh := hh.below hb4
        replace hp3 := hp3.below hb4
        replace X1 := X1.below hb4
        replace hbW : Below w.heap.size w u62 := hbW.trans (hb4.mono hbW.size)
        replace hbR : Below wr.heap.size wr u62 := hbR.trans (hb4.mono hbR.size)
        clear hb4
        generalize u1.heap.size = g4 at C4 ⊢
        clear p00 p01
        obtain ⟨p00, p01, _⟩ := X1.cells
        refine hK.out _ _ ?_ (fun hHeld => ?_)
        · (try dsimp only)
          all_goals trivial
        clear hK K
        try simp only [Act.put, List.setIfInBounds_toArray, List.set_cons_zero, List.set_cons_succ]
        refine hCall (i := 12) rfl (by kernel_rfl) (by rfl) (fun K hK => ?_)
        have hbs : V.heap.size ≤ u62.heap.size := Nat.le_trans hsz hbR.size
        have hne : ∀ b o, a3 = some ⟨b, o, none⟩ → (tesAt xs (4 + m * 6) ax) ≠ [] → (Value.slice a2 k c2).ownBlock ≠ some b ∧ V.heap.size ≤ b := fun b o e _ => by
          have h1 := hlo3 b o e
          refine ⟨fun e2 => ?_, by omega⟩
          have h2 := (HT0.out.lo e2).2
          omega
        refine wp_append_rg _ _ rfl V.heap.size _ _ rfl hTq g4 a3 c3 (tesAt xs (4 + m * 6) ax) rfl (by rw [HLL.out]; exact C4.2) hp3 hne hll hbs ?_
        intro v' w9 hT9 hgrow
        obtain ⟨a9, c9, hv9, _⟩ := hT9.slice
        obtain ⟨n9, hn9⟩ : ∃ n, (rgsAt xs 4 ax k ++ [(tesAt xs (4 + m * 6) ax)]).length = n := ⟨_, rfl⟩
        rw [hn9] at hv9
        subst hv9
        clear hn9
        have hnx : some gS ≠ Value.ownBlock (.slice a2 k c2) := fun e => by have := (HT0.out.lo e.symm).1; omega
        have hnr : some w.heap.size ≠ Value.ownBlock (.slice a2 k c2) := fun e => by have := (HT0.out.lo e.symm).1; omega
        replace X1 := X1.grown hgrow hnx
        replace R0 := R0.grown hgrow hnr
        replace hbW : Below w.heap.size w w9 := hbW.grown hgrow (by have := hbW.size; omega) (fun k hk => by have := (HT0.out.lo hk).1; omega)
        clear hTq hne hnx hnr C4 hp3 hh
        clear p00 p01
        obtain ⟨p00, p01, _⟩ := X1.cells
        have hgz := hgrow.size
        have hbz := hbR.size
        refine hK.out _ _ ?_ (fun hHeld => ?_)
        · (try dsimp only)
          all_goals trivial
        clear hK K
        try simp only [Act.put, List.setIfInBounds_toArray, List.set_cons_zero, List.set_cons_succ]
        refine hT 13 hHeld ?_
        refine hCall (i := 14) rfl (by kernel_rfl) (by rfl) (fun K hK => ?_)
        go_simp
        obtain ⟨f0, f1, f2, f3⟩ := X1.cells
        try go_simp
        obtain ⟨U9, hU, X2, hbU, ho, hz9⟩ := setS0_world X1 (.slice a9 n9 c9)
        rw [← hU]
        clear hU f0 f1 f2 f3
        replace hbW := hbU _ _ hbW (by omega)
        replace R0 := R0.otherB (G := gS) (by omega) ho
        replace hT9 := hT9.other (G := gS) (by omega) (Nat.le_of_eq hz9.symm) (fun b _ hb => ho b hb)
        clear hbU
        clear p00 p01
        refine hK.out _ _ ?_ (fun hHeld => ?_)
        · (try dsimp only)
          all_goals trivial
        clear hK K
        try simp only [Act.put, List.setIfInBounds_toArray, List.set_cons_zero, List.set_cons_succ]
        refine wpAnyH_done (by kernel_rfl) ?_ _
        clear hHeld
        rw [← HV.out] at hT9
        go_wp2
        go_roundw
        case rel => exact ⟨k + 1, _, by omega, by go_num, X2, hT9, R0, hbW, by omega⟩
        case measure => simp [intOf]; omega
      · go_simp
        have hcs := hbR.size
        refine (hta _ hh).mono ?_
        rintro e u1 ⟨a3, c3, rfl, hp3, hlo3, hb1⟩
        replace R0 := R0.below hb1
        replace hTq := hTq.below hb1
        replace hh := hh.below hb1
        replace X1 := X1.below hb1
        replace hbW : Below w.heap.size w u1 := hbW.trans (hb1.mono hbW.size)
        replace hbR : Below wr.heap.size wr u1 := hbR.trans (hb1.mono hbR.size)
        clear hb1
        clear p00 p01
        obtain ⟨p00, p01, _⟩ := X1.cells
        go_wp2_with fail
        refine hK.out _ _ ?_ (fun hHeld => ?_)
        · (try dsimp only)
          all_goals trivial
        clear hK K
        try simp only [Act.put, List.setIfInBounds_toArray, List.set_cons_zero, List.set_cons_succ]
        refine wpAnyH_ready (rs := [1, 11]) (by kernel_rfl) (by simp) (hCons (i := 1) rfl (by rfl) (fun K hK => ?_) (hCons (i := 11) rfl (by rfl) (fun K hK => ?_) AllReadyH.nil))
        · go_simp
          refine hK.out _ _ ?_ (fun hHeld => ?_)
          · (try dsimp only)
            all_goals trivial
          clear hK K
          try simp only [Act.put, List.setIfInBounds_toArray, List.set_cons_zero, List.set_cons_succ]
          refine hCall (i := 11) rfl (by kernel_rfl) (by rfl) (fun K hK => ?_)
          go_simp
          obtain ⟨u62, hU4, C4, hb4⟩ : ∃ U4, U4 = u1.alloc (.cells #[.slice a3 ax c3] 42) ∧ Cl U4 u1.heap.size 0 (.slice a3 ax c3) ∧ Below u1.heap.size u1 U4 := ⟨_, rfl, ⟨by simp, cell_of_row _ _ 0 _ _ (0, 0) (heap_alloc_new _ _)⟩, bl1 _⟩
          rw [← hU4]
          clear hU4
          replace R0 := R0.below hb4
          replace hTq := hTq.below hb4
          replace hh := hh.below hb4
          replace hp3 := hp3.below hb4
          replace X1 := X1.below hb4
          replace hbW : Below w.heap.size w u62 := hbW.trans (hb4.mono hbW.size)
          replace hbR : Below wr.heap.size wr u62 := hbR.trans (hb4.mono hbR.size)
          clear hb4
          generalize u1.heap.size = g4 at C4 ⊢
          clear p00 p01
          obtain ⟨p00, p01, _⟩ := X1.cells
          refine hK.out _ _ ?_ (fun hHeld => ?_)
          · (try dsimp only)
            all_goals trivial
          clear hK K
          try simp only [Act.put, List.setIfInBounds_toArray, List.set_cons_zero, List.set_cons_succ]
          refine hCall (i := 12) rfl (by kernel_rfl) (by rfl) (fun K hK => ?_)
          have hbs : V.heap.size ≤ u62.heap.size := Nat.le_trans hsz hbR.size
          have hne : ∀ b o, a3 = some ⟨b, o, none⟩ → (tesAt xs (4 + m * 6) ax) ≠ [] → (Value.slice a2 k c2).ownBlock ≠ some b ∧ V.heap.size ≤ b := fun b o e _ => by
            have h1 := hlo3 b o e
            refine ⟨fun e2 => ?_, by omega⟩
            have h2 := (HT0.out.lo e2).2
            omega
          refine wp_append_rg _ _ rfl V.heap.size _ _ rfl hTq g4 a3 c3 (tesAt xs (4 + m * 6) ax) rfl (by rw [HLL.out]; exact C4.2) hp3 hne hll hbs ?_
          intro v' w9 hT9 hgrow
          obtain ⟨a9, c9, hv9, _⟩ := hT9.slice
          obtain ⟨n9, hn9⟩ : ∃ n, (rgsAt xs 4 ax k ++ [(tesAt xs (4 + m * 6) ax)]).length = n := ⟨_, rfl⟩
          rw [hn9] at hv9
          subst hv9
          clear hn9
          have hnx : some gS ≠ Value.ownBlock (.slice a2 k c2) := fun e => by have := (HT0.out.lo e.symm).1; omega
          have hnr : some w.heap.size ≠ Value.ownBlock (.slice a2 k c2) := fun e => by have := (HT0.out.lo e.symm).1; omega
          replace X1 := X1.grown hgrow hnx
          replace R0 := R0.grown hgrow hnr
          replace hbW : Below w.heap.size w w9 := hbW.grown hgrow (by have := hbW.size; omega) (fun k hk => by have := (HT0.out.lo hk).1; omega)
          clear hTq hne hnx hnr C4 hp3 hh
          clear p00 p01
          obtain ⟨p00, p01, _⟩ := X1.cells
          have hgz := hgrow.size
          have hbz := hbR.size
          refine hK.out _ _ ?_ (fun hHeld => ?_)
          · (try dsimp only)
            all_goals trivial
          clear hK K
          try simp only [Act.put, List.setIfInBounds_toArray, List.set_cons_zero, List.set_cons_succ]
          refine hT 13 hHeld ?_
          refine hCall (i := 14) rfl (by kernel_rfl) (by rfl) (fun K hK => ?_)
          go_simp
          obtain ⟨f0, f1, f2, f3⟩ := X1.cells
          try go_simp
          obtain ⟨U9, hU, X2, hbU, ho, hz9⟩ := setS0_world X1 (.slice a9 n9 c9)
          rw [← hU]
          clear hU f0 f1 f2 f3
          replace hbW := hbU _ _ hbW (by omega)
          replace R0 := R0.otherB (G := gS) (by omega) ho
          replace hT9 := hT9.other (G := gS) (by omega) (Nat.le_of_eq hz9.symm) (fun b _ hb => ho b hb)
          clear hbU
          clear p00 p01
          refine hK.out _ _ ?_ (fun hHeld => ?_)
          · (try dsimp only)
            all_goals trivial
          clear hK K
          try simp only [Act.put, List.setIfInBounds_toArray, List.set_cons_zero, List.set_cons_succ]
          refine wpAnyH_done (by kernel_rfl) ?_ _
          clear hHeld
          rw [← HV.out] at hT9
          go_wp2
          go_roundw
          case rel => exact ⟨k + 1, _, by omega, by go_num, X2, hT9, R0, hbW, by omega⟩
          case measure => simp [intOf]; omega
        · go_simp
          obtain ⟨u62, hU4, C4, hb4⟩ : ∃ U4, U4 = u1.alloc (.cells #[.slice a3 ax c3] 42) ∧ Cl U4 u1.heap.size 0 (.slice a3 ax c3) ∧ Below u1.heap.size u1 U4 := ⟨_, rfl, ⟨by simp, cell_of_row _ _ 0 _ _ (0, 0) (heap_alloc_new _ _)⟩, bl1 _⟩
          rw [← hU4]
          clear hU4
          replace R0 := R0.below hb4
          replace hTq := hTq.below hb4
          replace hh := hh.below hb4
          replace hp3 := hp3.below hb4
          replace X1 := X1.below hb4
          replace hbW : Below w.heap.size w u62 := hbW.trans (hb4.mono hbW.size)
          replace hbR : Below wr.heap.size wr u62 := hbR.trans (hb4.mono hbR.size)
          clear hb4
          generalize u1.heap.size = g4 at C4 ⊢
          clear p00 p01
          obtain ⟨p00, p01, _⟩ := X1.cells
          refine hK.out _ _ ?_ (fun hHeld => ?_)
          · (try dsimp only)
            all_goals trivial
          clear hK K
          try simp only [Act.put, List.setIfInBounds_toArray, List.set_cons_zero, List.set_cons_succ]
          refine hCall (i := 1) rfl (by kernel_rfl) (by rfl) (fun K hK => ?_)
          go_simp
          refine hK.out _ _ ?_ (fun hHeld => ?_)
          · (try dsimp only)
            all_goals trivial
          clear hK K
          try simp only [Act.put, List.setIfInBounds_toArray, List.set_cons_zero, List.set_cons_succ]
          refine hCall (i := 12) rfl (by kernel_rfl) (by rfl) (fun K hK => ?_)
          have hbs : V.heap.size ≤ u62.heap.size := Nat.le_trans hsz hbR.size
          have hne : ∀ b o, a3 = some ⟨b, o, none⟩ → (tesAt xs (4 + m * 6) ax) ≠ [] → (Value.slice a2 k c2).ownBlock ≠ some b ∧ V.heap.size ≤ b := fun b o e _ => by
            have h1 := hlo3 b o e
            refine ⟨fun e2 => ?_, by omega⟩
            have h2 := (HT0.out.lo e2).2
            omega
          refine wp_append_rg _ _ rfl V.heap.size _ _ rfl hTq g4 a3 c3 (tesAt xs (4 + m * 6) ax) rfl (by rw [HLL.out]; exact C4.2) hp3 hne hll hbs ?_
          intro v' w9 hT9 hgrow
          obtain ⟨a9, c9, hv9, _⟩ := hT9.slice
          obtain ⟨n9, hn9⟩ : ∃ n, (rgsAt xs 4 ax k ++ [(tesAt xs (4 + m * 6) ax)]).length = n := ⟨_, rfl⟩
          rw [hn9] at hv9
          subst hv9
          clear hn9
          have hnx : some gS ≠ Value.ownBlock (.slice a2 k c2) := fun e => by have := (HT0.out.lo e.symm).1; omega
          have hnr : some w.heap.size ≠ Value.ownBlock (.slice a2 k c2) := fun e => by have := (HT0.out.lo e.symm).1; omega
          replace X1 := X1.grown hgrow hnx
          replace R0 := R0.grown hgrow hnr
          replace hbW : Below w.heap.size w w9 := hbW.grown hgrow (by have := hbW.size; omega) (fun k hk => by have := (HT0.out.lo hk).1; omega)
          clear hTq hne hnx hnr C4 hp3 hh
          clear p00 p01
          obtain ⟨p00, p01, _⟩ := X1.cells
          have hgz := hgrow.size
          have hbz := hbR.size
          refine hK.out _ _ ?_ (fun hHeld => ?_)
          · (try dsimp only)
            all_goals trivial
          clear hK K
          try simp only [Act.put, List.setIfInBounds_toArray, List.set_cons_zero, List.set_cons_succ]
          refine hT 13 hHeld ?_
          refine hCall (i := 14) rfl (by kernel_rfl) (by rfl) (fun K hK => ?_)
          go_simp
          obtain ⟨f0, f1, f2, f3⟩ := X1.cells
          try go_simp
          obtain ⟨U9, hU, X2, hbU, ho, hz9⟩ := setS0_world X1 (.slice a9 n9 c9)
          rw [← hU]
          clear hU f0 f1 f2 f3
          replace hbW := hbU _ _ hbW (by omega)
          replace R0 := R0.otherB (G := gS) (by omega) ho
          replace hT9 := hT9.other (G := gS) (by omega) (Nat.le_of_eq hz9.symm) (fun b _ hb => ho b hb)
          clear hbU
          clear p00 p01
          refine hK.out _ _ ?_ (fun hHeld => ?_)
          · (try dsimp only)
            all_goals trivial
          clear hK K
          try simp only [Act.put, List.setIfInBounds_toArray, List.set_cons_zero, List.set_cons_succ]
          refine wpAnyH_done (by kernel_rfl) ?_ _
          clear hHeld
          rw [← HV.out] at hT9
          go_wp2
          go_roundw
          case rel => exact ⟨k + 1, _, by omega, by go_num, X2, hT9, R0, hbW, by omega⟩
          case measure => simp [intOf]; omega
    · obtain rfl : k = rg := by omega
      have HTQ : Hid (Tq V.heap.size wr (.slice a2 k c2) (rgsAt xs 4 ax k)) := hTq
      have g6 : ¬ (k : Int) < (k : Int) := by omega
      clear hTq hts
      go_wp2
      obtain ⟨wo, rfl⟩ : ∃ wo, wo = wr := ⟨_, rfl⟩
      go_loopw [85] (fun i wr => ∃ (j : Nat) (v : Value), j ≤ nr ∧ i = .int .i64 (j : Int) ∧ BxS wr gS (.slice a2 k c2) v ∧ Rq wo.heap.size wr v (rowsAt xs (Q + 2) k j) ∧ BxS wr w.heap.size (.slice none 0 0) (.slice none 0 0) ∧ Below w.heap.size w wr ∧ wo.heap.size ≤ wr.heap.size ∧ (∀ b, b < wo.heap.size → b ≠ gS → wr.heap[b]? = wo.heap[b]?)) (fun i _ => nr - (intOf i).toNat)
      case atStart => exact ⟨0, _, Nat.zero_le _, rfl, X1, Rq.nil _ _, R0, hbW, Nat.le_refl _, fun _ _ _ => rfl⟩
      case round =>
        clear X1 R0 hbW hkn
        have hsz0 := hsz
        clear hsz
        obtain ⟨j, v, hj, rfl, X1, hTq, R0, hbW, hsz, hoth⟩ := hrel
        obtain ⟨a4, c4, rfl, hts⟩ := hTq.slice
        rw [rowsAt_len] at X1 hTq
        by_cases hjn : j < nr
        · clear hts
          obtain ⟨m, hm⟩ : ∃ m, j * k = m := ⟨_, rfl⟩
          have hmb : m ≤ 16000 := by rw [← hm]; exact Nat.mul_le_mul (show j ≤ 400 by omega) b2
          have hmi : (j : Int) * (k : Int) = (m : Int) := by rw [← hm, Int.natCast_mul]
          have HV : Hid (rowsAt xs (Q + 2) k (j + 1) = rowsAt xs (Q + 2) k j ++ [numAt xs (Q + 2 + m * 2) k]) := by show _ = _; rw [rowsAt_succ, ← hm, show Q + 2 + 2 * k * j = Q + 2 + j * k * 2 by rw [Nat.mul_comm j k, Nat.mul_assoc]; omega]
          have hta := fun U hU => fieldsAt_any a cap xs (Q + 2 + m * 2) k U hU (by omega) (by omega)
          simp only [show ((Q + 2 + m * 2 : Nat) : Int) = (Q : Int) + 2 + (m : Int) * 2 by omega] at hta
          have hw1 : IntKind.i64.wrap (m : Int) = (m : Int) := wrapi64 (by omega) (by omega)
          have hw2 : IntKind.i64.wrap ((m : Int) * 2) = (m : Int) * 2 := wrapi64 (by omega) (by omega)
          have hw3 : IntKind.i64.wrap ((Q : Int) + 2 + (m : Int) * 2) = (Q : Int) + 2 + (m : Int) * 2 := wrapi64 (by omega) (by omega)
          have HLL : Hid ((numAt xs (Q + 2 + m * 2) k).length = k) := numAt_len _ _ _
          have HT0 : Hid (Rq wo.heap.size wr (.slice a4 j c4) (rowsAt xs (Q + 2) k j)) := hTq
          have hll : (rowsAt xs (Q + 2) k j).length + 1 ≤ 1000000 := by rw [rowsAt_len]; omega
          have hv0 : gS < wo.heap.size := by omega
          clear hm
          have hbR : Below wr.heap.size wr wr := Below.refl _ _
          have hh := HH.out.below hbW
          go_upto_region 19 with fail
          obtain ⟨p00, p01, _⟩ := X1.cells
          refine wp_region_held_drew (S := (fun _ => True)) (by kernel_rfl) ?_ (fun hHeld => ?_)
          · (try dsimp only)
            all_goals go_keep
          have hdr : Below wr.heap.size wr wr.drew := Below.drew1
          generalize wr.drew = ud2 at hdr hHeld ⊢
          replace R0 := R0.below hdr
          replace hTq := hTq.below hdr
          replace hh := hh.below hdr
          replace X1 := X1.below hdr
          replace hbW : Below w.heap.size w ud2 := hbW.trans (hdr.mono hbW.size)
          replace hbR : Below wr.heap.size wr ud2 := hbR.trans (hdr.mono hbR.size)
          clear hdr
          clear p00 p01
          obtain ⟨p00, p01, _⟩ := X1.cells
          refine hT 0 hHeld ?_
          refine hT 2 hHeld ?_
          refine hT 3 hHeld ?_
          refine hT 4 hHeld ?_
          refine hT 5 hHeld ?_
          refine hT 6 hHeld ?_
          refine hT 7 hHeld ?_
          refine hT 8 hHeld ?_
          refine hT 9 hHeld ?_
          refine wpAnyH_ready (rs := [1, 10]) (by kernel_rfl) (by simp) (hCons (i := 1) rfl (by rfl) (fun K hK => ?_) (hCons (i := 10) rfl (by rfl) (fun K hK => ?_) AllReadyH.nil))
          · go_simp
            refine hK.out _ _ ?_ (fun hHeld => ?_)
            · (try dsimp only)
              all_goals trivial
            clear hK K
            try simp only [Act.put, List.setIfInBounds_toArray, List.set_cons_zero, List.set_cons_succ]
            refine hCall (i := 10) rfl (by kernel_rfl) (by rfl) (fun K hK => ?_)
            go_simp
            have hcs := hbR.size
            refine (hta _ hh).mono ?_
            rintro e u1 ⟨a3, c3, rfl, hp3, hlo3, hb1⟩
            replace R0 := R0.below hb1
            replace hTq := hTq.below hb1
            replace hh := hh.below hb1
            replace X1 := X1.below hb1
            replace hbW : Below w.heap.size w u1 := hbW.trans (hb1.mono hbW.size)
            replace hbR : Below wr.heap.size wr u1 := hbR.trans (hb1.mono hbR.size)
            clear hb1
            clear p00 p01
            obtain ⟨p00, p01, _⟩ := X1.cells
            go_wp2_with fail
            refine hK.out _ _ ?_ (fun hHeld => ?_)
            · (try dsimp only)
              all_goals trivial
            clear hK K
            try simp only [Act.put, List.setIfInBounds_toArray, List.set_cons_zero, List.set_cons_succ]
            refine hCall (i := 11) rfl (by kernel_rfl) (by rfl) (fun K hK => ?_)
            go_simp
            obtain ⟨u62, hU4, C4, hb4⟩ : ∃ U4, U4 = u1.alloc (.cells #[.slice a3 k c3] 54) ∧ Cl U4 u1.heap.size 0 (.slice a3 k c3) ∧ Below u1.heap.size u1 U4 := ⟨_, rfl, ⟨by simp, cell_of_row _ _ 0 _ _ (0, 0) (heap_alloc_new _ _)⟩, bl1 _⟩
            rw [← hU4]
            clear hU4
            replace R0 := R0.below hb4
            replace hTq := hTq.below hb4
            replace hh := hh.below hb4
            replace hp3 := hp3.below hb4
            replace X1 := X1.below hb4
            replace hbW : Below w.heap.size w u62 := hbW.trans (hb4.mono hbW.size)
            replace hbR : Below wr.heap.size wr u62 := hbR.trans (hb4.mono hbR.size)
            clear hb4
            generalize u1.heap.size = g4 at C4 ⊢
            clear p00 p01
            obtain ⟨p00, p01, _⟩ := X1.cells
            refine hK.out _ _ ?_ (fun hHeld => ?_)
            · (try dsimp only)
              all_goals trivial
            clear hK K
            try simp only [Act.put, List.setIfInBounds_toArray, List.set_cons_zero, List.set_cons_succ]
            refine hCall (i := 12) rfl (by kernel_rfl) (by rfl) (fun K hK => ?_)
            have hbs : wo.heap.size ≤ u62.heap.size := Nat.le_trans hsz hbR.size
            have hne : ∀ b o, a3 = some ⟨b, o, none⟩ → (numAt xs (Q + 2 + m * 2) k) ≠ [] → (Value.slice a4 j c4).ownBlock ≠ some b ∧ wo.heap.size ≤ b := fun b o e _ => by
              have h1 := hlo3 b o e
              refine ⟨fun e2 => ?_, by omega⟩
              have h2 := (HT0.out.lo e2).2
              omega
            refine wp_append_rw _ _ rfl wo.heap.size _ _ rfl hTq g4 a3 c3 (numAt xs (Q + 2 + m * 2) k) rfl (by rw [HLL.out]; exact C4.2) hp3 hne hll hbs ?_
            intro v' w9 hT9 hgrow
            obtain ⟨a9, c9, hv9, _⟩ := hT9.slice
            obtain ⟨n9, hn9⟩ : ∃ n, (rowsAt xs (Q + 2) k j ++ [(numAt xs (Q + 2 + m * 2) k)]).length = n := ⟨_, rfl⟩
            rw [hn9] at hv9
            subst hv9
            clear hn9
            have hnx : some gS ≠ Value.ownBlock (.slice a4 j c4) := fun e => by have := (HT0.out.lo e.symm).1; omega
            have hnr : some w.heap.size ≠ Value.ownBlock (.slice a4 j c4) := fun e => by have := (HT0.out.lo e.symm).1; omega
            replace X1 := X1.grown hgrow hnx
            replace R0 := R0.grown hgrow hnr
            replace hbW : Below w.heap.size w w9 := hbW.grown hgrow (by have := hbW.size; omega) (fun k hk => by have := (HT0.out.lo hk).1; omega)
            have hoth9 : ∀ b, b < wo.heap.size → b ≠ gS → w9.heap[b]? = wo.heap[b]? := fun b hb hb2 => (hgrow.block b (by have := hbR.size; omega) (fun e => by have := (HT0.out.lo e.symm).1; omega)).trans ((hbR.block b (by omega)).trans (hoth b hb hb2))
            clear hTq hne hnx hnr C4 hp3 hh
            clear p00 p01
            obtain ⟨p00, p01, _⟩ := X1.cells
            have hgz := hgrow.size
            have hbz := hbR.size
            refine hK.out _ _ ?_ (fun hHeld => ?_)
            · (try dsimp only)
              all_goals trivial
            clear hK K
            try simp only [Act.put, List.setIfInBounds_toArray, List.set_cons_zero, List.set_cons_succ]
            refine hT 13 hHeld ?_
            refine hCall (i := 14) rfl (by kernel_rfl) (by rfl) (fun K hK => ?_)
            go_simp
            obtain ⟨f0, f1, f2, f3⟩ := X1.cells
            try go_simp
            obtain ⟨U9, hU, X2, hbU, ho, hz9⟩ := setS1_world X1 (.slice a9 n9 c9)
            rw [← hU]
            clear hU f0 f1 f2 f3
            replace hbW := hbU _ _ hbW (by omega)
            replace R0 := R0.otherB (G := gS) (by omega) ho
            replace hT9 := hT9.other (G := gS) (by omega) (Nat.le_of_eq hz9.symm) (fun b _ hb => ho b hb)
            replace hoth9 : ∀ b, b < wo.heap.size → b ≠ gS → U9.heap[b]? = wo.heap[b]? := fun b hb hb2 => (ho b hb2).trans (hoth9 b hb hb2)
            clear hbU
            clear p00 p01
            refine hK.out _ _ ?_ (fun hHeld => ?_)
            · (try dsimp only)
              all_goals trivial
            clear hK K
            try simp only [Act.put, List.setIfInBounds_toArray, List.set_cons_zero, List.set_cons_succ]
            refine wpAnyH_done (by kernel_rfl) ?_ _
            clear hHeld
            rw [← HV.out] at hT9
            go_wp2
            go_roundw
            case rel => exact ⟨j + 1, _, by omega, by go_num, X2, hT9, R0, hbW, by omega, hoth9⟩
            case measure => simp [intOf]; omega
          · go_simp
            have hcs := hbR.size
            refine (hta _ hh).mono ?_
            rintro e u1 ⟨a3, c3, rfl, hp3, hlo3, hb1⟩
            replace R0 := R0.below hb1
            replace hTq := hTq.below hb1
            replace hh := hh.below hb1
            replace X1 := X1.below hb1
            replace hbW : Below w.heap.size w u1 := hbW.trans (hb1.mono hbW.size)
            replace hbR : Below wr.heap.size wr u1 := hbR.trans (hb1.mono hbR.size)
            clear hb1
            clear p00 p01
            obtain ⟨p00, p01, _⟩ := X1.cells
            go_wp2_with fail
            refine hK.out _ _ ?_ (fun hHeld => ?_)
            · (try dsimp only)
              all_goals trivial
            clear hK K
            try simp only [Act.put, List.setIfInBounds_toArray, List.set_cons_zero, List.set_cons_succ]
            refine wpAnyH_ready (rs := [1, 11]) (by kernel_rfl) (by simp) (hCons (i := 1) rfl (by rfl) (fun K hK => ?_) (hCons (i := 11) rfl (by rfl) (fun K hK => ?_) AllReadyH.nil))
            · go_simp
              refine hK.out _ _ ?_ (fun hHeld => ?_)
              · (try dsimp only)
                all_goals trivial
              clear hK K
              try simp only [Act.put, List.setIfInBounds_toArray, List.set_cons_zero, List.set_cons_succ]
              refine hCall (i := 11) rfl (by kernel_rfl) (by rfl) (fun K hK => ?_)
              go_simp
              obtain ⟨u62, hU4, C4, hb4⟩ : ∃ U4, U4 = u1.alloc (.cells #[.slice a3 k c3] 54) ∧ Cl U4 u1.heap.size 0 (.slice a3 k c3) ∧ Below u1.heap.size u1 U4 := ⟨_, rfl, ⟨by simp, cell_of_row _ _ 0 _ _ (0, 0) (heap_alloc_new _ _)⟩, bl1 _⟩
              rw [← hU4]
              clear hU4
              replace R0 := R0.below hb4
              replace hTq := hTq.below hb4
              replace hh := hh.below hb4
              replace hp3 := hp3.below hb4
              replace X1 := X1.below hb4
              replace hbW : Below w.heap.size w u62 := hbW.trans (hb4.mono hbW.size)
              replace hbR : Below wr.heap.size wr u62 := hbR.trans (hb4.mono hbR.size)
              clear hb4
              generalize u1.heap.size = g4 at C4 ⊢
              clear p00 p01
              obtain ⟨p00, p01, _⟩ := X1.cells
              refine hK.out _ _ ?_ (fun hHeld => ?_)
              · (try dsimp only)
                all_goals trivial
              clear hK K
              try simp only [Act.put, List.setIfInBounds_toArray, List.set_cons_zero, List.set_cons_succ]
              refine hCall (i := 12) rfl (by kernel_rfl) (by rfl) (fun K hK => ?_)
              have hbs : wo.heap.size ≤ u62.heap.size := Nat.le_trans hsz hbR.size
              have hne : ∀ b o, a3 = some ⟨b, o, none⟩ → (numAt xs (Q + 2 + m * 2) k) ≠ [] → (Value.slice a4 j c4).ownBlock ≠ some b ∧ wo.heap.size ≤ b := fun b o e _ => by
                have h1 := hlo3 b o e
                refine ⟨fun e2 => ?_, by omega⟩
                have h2 := (HT0.out.lo e2).2
                omega
              refine wp_append_rw _ _ rfl wo.heap.size _ _ rfl hTq g4 a3 c3 (numAt xs (Q + 2 + m * 2) k) rfl (by rw [HLL.out]; exact C4.2) hp3 hne hll hbs ?_
              intro v' w9 hT9 hgrow
              obtain ⟨a9, c9, hv9, _⟩ := hT9.slice
              obtain ⟨n9, hn9⟩ : ∃ n, (rowsAt xs (Q + 2) k j ++ [(numAt xs (Q + 2 + m * 2) k)]).length = n := ⟨_, rfl⟩
              rw [hn9] at hv9
              subst hv9
              clear hn9
              have hnx : some gS ≠ Value.ownBlock (.slice a4 j c4) := fun e => by have := (HT0.out.lo e.symm).1; omega
              have hnr : some w.heap.size ≠ Value.ownBlock (.slice a4 j c4) := fun e => by have := (HT0.out.lo e.symm).1; omega
              replace X1 := X1.grown hgrow hnx
              replace R0 := R0.grown hgrow hnr
              replace hbW : Below w.heap.size w w9 := hbW.grown hgrow (by have := hbW.size; omega) (fun k hk => by have := (HT0.out.lo hk).1; omega)
              have hoth9 : ∀ b, b < wo.heap.size → b ≠ gS → w9.heap[b]? = wo.heap[b]? := fun b hb hb2 => (hgrow.block b (by have := hbR.size; omega) (fun e => by have := (HT0.out.lo e.symm).1; omega)).trans ((hbR.block b (by omega)).trans (hoth b hb hb2))
              clear hTq hne hnx hnr C4 hp3 hh
              clear p00 p01
              obtain ⟨p00, p01, _⟩ := X1.cells
              have hgz := hgrow.size
              have hbz := hbR.size
              refine hK.out _ _ ?_ (fun hHeld => ?_)
              · (try dsimp only)
                all_goals trivial
              clear hK K
              try simp only [Act.put, List.setIfInBounds_toArray, List.set_cons_zero, List.set_cons_succ]
              refine hT 13 hHeld ?_
              refine hCall (i := 14) rfl (by kernel_rfl) (by rfl) (fun K hK => ?_)
              go_simp
              obtain ⟨f0, f1, f2, f3⟩ := X1.cells
              try go_simp
              obtain ⟨U9, hU, X2, hbU, ho, hz9⟩ := setS1_world X1 (.slice a9 n9 c9)
              rw [← hU]
              clear hU f0 f1 f2 f3
              replace hbW := hbU _ _ hbW (by omega)
              replace R0 := R0.otherB (G := gS) (by omega) ho
              replace hT9 := hT9.other (G := gS) (by omega) (Nat.le_of_eq hz9.symm) (fun b _ hb => ho b hb)
              replace hoth9 : ∀ b, b < wo.heap.size → b ≠ gS → U9.heap[b]? = wo.heap[b]? := fun b hb hb2 => (ho b hb2).trans (hoth9 b hb hb2)
              clear hbU
              clear p00 p01
              refine hK.out _ _ ?_ (fun hHeld => ?_)
              · (try dsimp only)
                all_goals trivial
              clear hK K
              try simp only [Act.put, List.setIfInBounds_toArray, List.set_cons_zero, List.set_cons_succ]
              refine wpAnyH_done (by kernel_rfl) ?_ _
              clear hHeld
              rw [← HV.out] at hT9
              go_wp2
              go_roundw
              case rel => exact ⟨j + 1, _, by omega, by go_num, X2, hT9, R0, hbW, by omega, hoth9⟩
              case measure => simp [intOf]; omega
            · go_simp
              obtain ⟨u62, hU4, C4, hb4⟩ : ∃ U4, U4 = u1.alloc (.cells #[.slice a3 k c3] 54) ∧ Cl U4 u1.heap.size 0 (.slice a3 k c3) ∧ Below u1.heap.size u1 U4 := ⟨_, rfl, ⟨by simp, cell_of_row _ _ 0 _ _ (0, 0) (heap_alloc_new _ _)⟩, bl1 _⟩
              rw [← hU4]
              clear hU4
              replace R0 := R0.below hb4
              replace hTq := hTq.below hb4
              replace hh := hh.below hb4
              replace hp3 := hp3.below hb4
              replace X1 := X1.below hb4
              replace hbW : Below w.heap.size w u62 := hbW.trans (hb4.mono hbW.size)
              replace hbR : Below wr.heap.size wr u62 := hbR.trans (hb4.mono hbR.size)
              clear hb4
              generalize u1.heap.size = g4 at C4 ⊢
              clear p00 p01
              obtain ⟨p00, p01, _⟩ := X1.cells
              refine hK.out _ _ ?_ (fun hHeld => ?_)
              · (try dsimp only)
                all_goals trivial
              clear hK K
              try simp only [Act.put, List.setIfInBounds_toArray, List.set_cons_zero, List.set_cons_succ]
              refine hCall (i := 1) rfl (by kernel_rfl) (by rfl) (fun K hK => ?_)
              go_simp
              refine hK.out _ _ ?_ (fun hHeld => ?_)
              · (try dsimp only)
                all_goals trivial
              clear hK K
              try simp only [Act.put, List.setIfInBounds_toArray, List.set_cons_zero, List.set_cons_succ]
              refine hCall (i := 12) rfl (by kernel_rfl) (by rfl) (fun K hK => ?_)
              have hbs : wo.heap.size ≤ u62.heap.size := Nat.le_trans hsz hbR.size
              have hne : ∀ b o, a3 = some ⟨b, o, none⟩ → (numAt xs (Q + 2 + m * 2) k) ≠ [] → (Value.slice a4 j c4).ownBlock ≠ some b ∧ wo.heap.size ≤ b := fun b o e _ => by
                have h1 := hlo3 b o e
                refine ⟨fun e2 => ?_, by omega⟩
                have h2 := (HT0.out.lo e2).2
                omega
              refine wp_append_rw _ _ rfl wo.heap.size _ _ rfl hTq g4 a3 c3 (numAt xs (Q + 2 + m * 2) k) rfl (by rw [HLL.out]; exact C4.2) hp3 hne hll hbs ?_
              intro v' w9 hT9 hgrow
              obtain ⟨a9, c9, hv9, _⟩ := hT9.slice
              obtain ⟨n9, hn9⟩ : ∃ n, (rowsAt xs (Q + 2) k j ++ [(numAt xs (Q + 2 + m * 2) k)]).length = n := ⟨_, rfl⟩
              rw [hn9] at hv9
              subst hv9
              clear hn9
              have hnx : some gS ≠ Value.ownBlock (.slice a4 j c4) := fun e => by have := (HT0.out.lo e.symm).1; omega
              have hnr : some w.heap.size ≠ Value.ownBlock (.slice a4 j c4) := fun e => by have := (HT0.out.lo e.symm).1; omega
              replace X1 := X1.grown hgrow hnx
              replace R0 := R0.grown hgrow hnr
              replace hbW : Below w.heap.size w w9 := hbW.grown hgrow (by have := hbW.size; omega) (fun k hk => by have := (HT0.out.lo hk).1; omega)
              have hoth9 : ∀ b, b < wo.heap.size → b ≠ gS → w9.heap[b]? = wo.heap[b]? := fun b hb hb2 => (hgrow.block b (by have := hbR.size; omega) (fun e => by have := (HT0.out.lo e.symm).1; omega)).trans ((hbR.block b (by omega)).trans (hoth b hb hb2))
              clear hTq hne hnx hnr C4 hp3 hh
              clear p00 p01
              obtain ⟨p00, p01, _⟩ := X1.cells
              have hgz := hgrow.size
              have hbz := hbR.size
              refine hK.out _ _ ?_ (fun hHeld => ?_)
              · (try dsimp only)
                all_goals trivial
              clear hK K
              try simp only [Act.put, List.setIfInBounds_toArray, List.set_cons_zero, List.set_cons_succ]
              refine hT 13 hHeld ?_
              refine hCall (i := 14) rfl (by kernel_rfl) (by rfl) (fun K hK => ?_)
              go_simp
              obtain ⟨f0, f1, f2, f3⟩ := X1.cells
              try go_simp
              obtain ⟨U9, hU, X2, hbU, ho, hz9⟩ := setS1_world X1 (.slice a9 n9 c9)
              rw [← hU]
              clear hU f0 f1 f2 f3
              replace hbW := hbU _ _ hbW (by omega)
              replace R0 := R0.otherB (G := gS) (by omega) ho
              replace hT9 := hT9.other (G := gS) (by omega) (Nat.le_of_eq hz9.symm) (fun b _ hb => ho b hb)
              replace hoth9 : ∀ b, b < wo.heap.size → b ≠ gS → U9.heap[b]? = wo.heap[b]? := fun b hb hb2 => (ho b hb2).trans (hoth9 b hb hb2)
              clear hbU
              clear p00 p01
              refine hK.out _ _ ?_ (fun hHeld => ?_)
              · (try dsimp only)
                all_goals trivial
              clear hK K
              try simp only [Act.put, List.setIfInBounds_toArray, List.set_cons_zero, List.set_cons_succ]
              refine wpAnyH_done (by kernel_rfl) ?_ _
              clear hHeld
              rw [← HV.out] at hT9
              go_wp2
              go_roundw
              case rel => exact ⟨j + 1, _, by omega, by go_num, X2, hT9, R0, hbW, by omega, hoth9⟩
              case measure => simp [intOf]; omega
        · obtain rfl : j = nr := by omega
          have hg := HTQ.out.other (G := gS) (w' := wr) (by omega) hsz (fun b hb hb2 => hoth b hb hb2)
          have HTQ2 : Hid (Tq V.heap.size wr (.slice a2 k c2) (rgsAt xs 4 ax k)) := hg
          have HRQ : Hid (Rq wo.heap.size wr (.slice a4 j c4) (rowsAt xs (Q + 2) k j)) := hTq
          obtain ⟨_, _, e9, hts1⟩ := hg.slice
          rw [rgsAt_len] at e9
          cases e9
          have g7 : ¬ (j : Int) < (j : Int) := by omega
          have hfo := cformS_any a2 c2 a4 c4 ⟨rgsAt xs 4 ax k, rowsAt xs (Q + 2) k j⟩ (ax : Int) wr hts1 hts
          dsimp only at hfo
          rw [rgsAt_len, rowsAt_len] at hfo
          have HRB : Hid (rdSB xs = stB ⟨rgsAt xs 4 ax k, rowsAt xs (Q + 2) k j⟩ (ax : Int)) := by
            show _ = _
            rw [Bool.eq_iff_iff, HCD.out, HCS.out, HAX.out]
            exact ⟨fun h => h.2, fun h => ⟨HCB2.out, h⟩⟩
          have hv0 : gS < wo.heap.size := by omega
          clear hg hTq hts hts1 hoth
          obtain ⟨p0, p1, _⟩ := X1.cells
          cases hst : stB ⟨rgsAt xs 4 ax k, rowsAt xs (Q + 2) k j⟩ (ax : Int) with
          | false =>
            have HE : Hid (rdSE xs = 2 ∧ rdSN xs = 0 ∧ (rdSL xs).rg = [] ∧ (rdSL xs).rw = []) := HBAD.out (by rw [HRB.out, hst])
            rw [hst] at hfo
            clear hst
            go_wp2_with fail
            refine hfo.mono ?_
            rintro e t9 ⟨rfl, hb9⟩
            replace R0 := R0.below hb9
            replace hbW := hbW.trans (hb9.mono hbW.size)
            clear hb9 hfo X1 p0 p1
            obtain ⟨q0, q1, q2, q3⟩ := R0.cells
            have hs := R0.lt
            go_wp2
            obtain ⟨U, hU, R1, hbU, ho, hz⟩ := setS2_world R0 (.slice none 0 0) (.slice none 0 0)
            rw [← hU]
            replace hbW := hbU _ _ hbW (Nat.le_refl _)
            refine bodyPost_ret (v := .tuple #[.agg #[.slice none 0 0, .slice none 0 0], .int .i64 0, .int .i64 2]) (by obtain ⟨r1, r2, _⟩ := BxS.cells R1; simp [results, Try.results12, go_sem, r1, r2]) rfl ⟨none, 0, none, 0, by rw [HE.out.1, HE.out.2.1, HE.out.2.2.1, HE.out.2.2.2]; rfl, by rw [HE.out.2.2.1]; exact Tzz.nil _ _ _ (Nat.zero_le _), by rw [HE.out.2.2.2]; exact Rii.nil _ _ _ (Nat.zero_le _), hbW⟩
          | true =>
            have hE := HGOOD.out (by rw [HRB.out, hst])
            rw [HCS.out, HAX.out] at hE
            have HE : Hid (rdSE xs = 0 ∧ rdSN xs = (ax : Int) ∧ rdSL xs = ⟨rgsAt xs 4 ax k, rowsAt xs (Q + 2) k j⟩) := hE
            rw [hst] at hfo
            clear hst hE
            go_wp2_with fail
            refine hfo.mono ?_
            rintro e t9 ⟨rfl, hb9⟩
            replace R0 := R0.below hb9
            replace X1 := X1.below hb9
            have hg := HTQ2.out.below hb9
            have hm := HRQ.out.below hb9
            replace hbW := hbW.trans (hb9.mono hbW.size)
            clear hb9 hfo p0 p1
            obtain ⟨p0, p1, _⟩ := X1.cells
            obtain ⟨q0, q1, q2, q3⟩ := R0.cells
            have hs := R0.lt
            go_wp2
            obtain ⟨U, hU, R1, hbU, ho, hz⟩ := setS2_world R0 (.slice a2 k c2) (.slice a4 j c4)
            rw [← hU]
            replace hbW := hbU _ _ hbW (Nat.le_refl _)
            replace hg := hg.other (G := w.heap.size) (w' := U) (by omega) (Nat.le_of_eq hz.symm) (fun b _ hb => ho b hb)
            replace hm := hm.other (G := w.heap.size) (w' := U) (by omega) (Nat.le_of_eq hz.symm) (fun b _ hb => ho b hb)
            obtain ⟨_, _, e9, hts1⟩ := hg.slice
            rw [rgsAt_len] at e9
            cases e9
            obtain ⟨_, _, e8, hts2⟩ := hm.slice
            rw [rowsAt_len] at e8
            cases e8
            refine bodyPost_ret (v := .tuple #[.agg #[.slice a2 k c2, .slice a4 j c4], .int .i64 (ax : Int), .int .i64 0]) (by obtain ⟨r1, r2, _⟩ := R1.cells; simp [results, Try.results12, go_sem, r1, r2]) rfl ⟨a2, c2, a4, c4, by rw [HE.out.1, HE.out.2.1, HE.out.2.2]; dsimp only; rw [rgsAt_len, rowsAt_len], by rw [HE.out.2.2]; exact hts1, by rw [HE.out.2.2]; exact hts2, hbW⟩

end Go.Proofs.Ytjefaccpmoignaa
