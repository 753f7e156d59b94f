/-
  foundrylaw20.SubstSplit: the walk.
-/
import Derived.Test.YtechkkefpigcaaaDoorZM9
import Derived.Test.YtechkkefpigcaaaDoorZM10
namespace Go.Proofs.YtechkkefpigcaaaDoor
open Go.RowKit Go.Maps
set_option linter.unusedSimpArgs false
set_option linter.unusedVariables false

/-- How many of the first k are p. -/
def cnP (p : Int) (L : List Int) (k : Nat) : Nat := ((L.take k).filter (fun x => x == p)).length
theorem cnP_yes {p : Int} {L : List Int} {k : Nat} (hk : k < L.length) (h : L.getD k 0 = p) : cnP p L (k + 1) = cnP p L k + 1 := by
  unfold cnP
  rw [List.getD_eq_getElem?_getD, List.getElem?_eq_getElem hk, Option.getD_some] at h
  rw [List.take_succ_eq_append_getElem hk, List.filter_append, List.length_append, h]
  simp
theorem cnP_no {p : Int} {L : List Int} {k : Nat} (hk : k < L.length) (h : L.getD k 0 ≠ p) : cnP p L (k + 1) = cnP p L k := by
  unfold cnP
  rw [List.getD_eq_getElem?_getD, List.getElem?_eq_getElem hk, Option.getD_some] at h
  rw [List.take_succ_eq_append_getElem hk, List.filter_append, List.length_append]
  simp [h]
theorem cnP_le (p : Int) (L : List Int) (k : Nat) : cnP p L k ≤ L.length := by
  unfold cnP
  refine Nat.le_trans (List.length_filter_le _ _) ?_
  rw [List.length_take]
  omega

set_option maxHeartbeats 8000000 in
set_option maxRecDepth 100000 in
theorem substSplit_any (S : Nat → Prop) (a : Option Addr) (ca : Nat) (L : List Int) (g0 g1 g2 : Int) (w : World)
    (hL : Gr El.int S w a ca L) (hg0 : 0 ≤ g0 ∧ g0 < 256) (hg1 : 0 ≤ g1 ∧ g1 < 256) (hg2 : 0 ≤ g2 ∧ g2 < 256) (hT : Spn w) :
    Calls Tryd.prog 7 #[.slice a L.length ca, .agg #[.int .u8 g0, .int .u8 g1, .int .u8 g2]] w fun e w' => e = .returned (.bool true) ∧ Below w.heap.size w w' := by
  have k1 := hL.lenB
  obtain ⟨p0, p1⟩ := hg0
  obtain ⟨p2, p3⟩ := hg1
  obtain ⟨p4, p5⟩ := hg2
  obtain ⟨q, hq⟩ : ∃ q : Int, 300 + g1 = q := ⟨_, rfl⟩
  obtain ⟨r, hr⟩ : ∃ r : Int, 600 + g2 = r := ⟨_, rfl⟩
  obtain ⟨W0, hW0, X1, hbW⟩ : ∃ W0, W0 = w.alloc (.cells #[.int .u8 g0, .int .u8 g1, .int .u8 g2] 48) ∧ Bk 48 W0 w.heap.size [.int .u8 g0, .int .u8 g1, .int .u8 g2] ∧ Below w.heap.size w W0 := ⟨_, rfl, Bk.new _ _ _, bl1 _⟩
  have HL : Hid (∀ U, Below w.heap.size w U → Gr El.int S U a ca L) := fun U hU => hL.below hU
  have HT : Hid (∀ U, Below w.heap.size w U → Spn U) := fun U hU => hT.below hU
  have HAW : Hid (∀ U, Below w.heap.size w U → Calls Tryd.prog 9 #[] U fun e w' => e = .returned (.bool true) ∧ Below U.heap.size U w') := fun U hU => awake20_any U (hT.below hU)
  obtain ⟨x0, x1, x2, -⟩ := X1.three
  have v0 : IntKind.i64.wrap g0 = g0 := wrapi64y (by omega) (by omega)
  have v1 : IntKind.i64.wrap g1 = g1 := wrapi64y (by omega) (by omega)
  have v2 : IntKind.i64.wrap g2 = g2 := wrapi64y (by omega) (by omega)
  have v3 : IntKind.i64.wrap (300 + g1) = q := by rw [← hq]; exact wrapi64y (by omega) (by omega)
  have v4 : IntKind.i64.wrap (600 + g2) = r := by rw [← hr]; exact wrapi64y (by omega) (by omega)
  have hqb : 300 ≤ q ∧ q < 600 := by omega
  have hrb : 600 ≤ r ∧ r < 900 := by omega
  obtain ⟨q1, q2⟩ := hqb
  obtain ⟨r1, r2⟩ := hrb
  clear hq hr
  go_enter Tryd.func7, Tryd.ntmps7
  go_upto_region 1 with fail
  rw [← hW0]
  clear hW0 hL hT X1
  go_quiet (fail)
  obtain ⟨V, hV⟩ : ∃ V, V = W0.drewN nq := ⟨_, rfl⟩
  have hyV : Below W0.heap.size W0 V := by rw [hV]; exact below_drewN (Below.refl _ _) _
  rw [← hV]
  have hbV := hbW.trans (hyV.mono hbW.size)
  clear hV x0 x1 x2 v0 v1 v2 v3 v4
  go_wp2_with fail
  refine (HAW.out _ hbV).mono ?_
  rintro e y1 ⟨rfl, hc1⟩
  have hb1 := hbV.trans (hc1.mono hbV.size)
  clear hc1 hyV hbV
  by_cases f1 : 50 < L.length
  · have d1 : decide ((50 : Int) < (L.length : Int)) = true := decide_eq_true (by omega)
    clear f1
    go_wp2_with fail
    refine (HAW.out _ hb1).mono ?_
    rintro e y9 ⟨rfl, hb9⟩
    have hfin := hb1.trans (hb9.mono hb1.size)
    clear hb9
    go_wp2
    go_ret
    exact ⟨rfl, hfin⟩
  have d1 : decide ((50 : Int) < (L.length : Int)) = false := decide_eq_false (by omega)
  go_wp2
  clear d1
  go_loopw [8] (fun v wr => ∃ k : Nat, v = .int .i64 k ∧ k ≤ L.length ∧ Hid (∀ j, j < k → L.getD j 0 ≠ q) ∧ wr = y1) (fun v _ => L.length - (intOf v).toNat)
  case atStart => exact ⟨0, rfl, Nat.zero_le _, (fun j hj => by omega), rfl⟩
  case round =>
    obtain ⟨k, rfl, hk, HNQ, rfl⟩ := hrel
    by_cases hkn : k < L.length
    · obtain ⟨b1, o1, ea, hlt1, c1⟩ := (HL.out _ hb1).ri.at (Below.refl _ _) k hkn
      have i1 : (0 : Int) ≤ (k : Int) := by omega
      have i2 : (k : Int) < (L.length : Int) := by omega
      obtain ⟨z, hz⟩ : ∃ z, L.getD k 0 = z := ⟨_, rfl⟩
      have HZ : Hid (L.getD k 0 = z) := hz
      rw [hz] at c1
      subst ea
      clear hz
      by_cases m1 : z = q
      · have g1 : (z == q) = true := beq_iff_eq.2 m1
        clear m1
        go_wp2
        go_ret
        exact ⟨rfl, hb1⟩
      have g1 : (z == q) = false := beq_eq_false_iff_ne.2 m1
      by_cases m2 : z = r
      · have g2 : (z == r) = true := beq_iff_eq.2 m2
        clear m1 m2
        go_wp2
        go_ret
        exact ⟨rfl, hb1⟩
      have g2 : (z == r) = false := beq_eq_false_iff_ne.2 m2
      have HN2 : Hid (∀ j, j < k + 1 → L.getD j 0 ≠ q) := fun j hj => by
        rcases Nat.lt_or_ge j k with h1 | h1
        · exact HNQ.out j h1
        · rw [show j = k by omega, HZ.out]; exact m1
      clear m1 m2 HNQ HZ
      go_wp2
      go_roundw
      case rel => exact ⟨k + 1, by first | rfl | go_num, by omega, HN2, (by first | rfl | trivial)⟩
      case measure => simp [intOf]; omega
    · have i2 : ¬ (k : Int) < (L.length : Int) := by omega
      have HNM : Hid (∀ x ∈ L, x ≠ q) := fun x hx => by
        obtain ⟨j, hj, e⟩ := List.getElem_of_mem hx
        have h := HNQ.out j (by omega)
        rw [List.getD_eq_getElem?_getD, List.getElem?_eq_getElem hj, Option.getD_some, e] at h
        exact h
      clear HNQ
      obtain ⟨W0, hW0⟩ : ∃ W0, W0 = wr.alloc (.cells #[.int .i64 g0] 3) := ⟨_, rfl⟩
      have sW0 : W0.heap.size = wr.heap.size + 1 := by rw [hW0, World.size_alloc]
      have dW0 : Below wr.heap.size wr W0 := by rw [hW0]; exact bl1 _
      have cW0 : Below wr.heap.size wr W0 := dW0
      have BW0 : Bk 3 W0 (wr.heap.size) [.int .i64 g0] := by rw [hW0]; exact Bk.new _ _ _
      obtain ⟨W1, hW1⟩ : ∃ W1, W1 = W0.alloc (.cells #[.int .i64 q, .int .i64 r] 3) := ⟨_, rfl⟩
      have sW1 : W1.heap.size = wr.heap.size + 1 + 1 := by rw [hW1, World.size_alloc, sW0]
      have dW1 : Below W0.heap.size W0 W1 := by rw [hW1]; exact bl1 _
      have cW1 : Below wr.heap.size wr W1 := cW0.trans (dW1.mono cW0.size)
      have BW1 : Bk 3 W1 (wr.heap.size + 1) [.int .i64 q, .int .i64 r] := by rw [hW1, ← sW0]; exact Bk.new _ _ _
      replace BW0 := BW0.below dW1
      obtain ⟨W2, hW2⟩ : ∃ W2, W2 = W1.alloc (.cells #[.slice (some ⟨wr.heap.size, 0, none⟩) 1 1, .slice (some ⟨wr.heap.size + 1, 0, none⟩) 2 2, .int .i64 0, .int .i64 0, .int .i64 0, .int .i64 0, .int .i64 0, .int .i64 0, .int .i64 0, .int .i64 0] 46) := ⟨_, rfl⟩
      have sW2 : W2.heap.size = wr.heap.size + 1 + 1 + 1 := by rw [hW2, World.size_alloc, sW1]
      have dW2 : Below W1.heap.size W1 W2 := by rw [hW2]; exact bl1 _
      have cW2 : Below wr.heap.size wr W2 := cW1.trans (dW2.mono cW1.size)
      have BW2 : Bk 46 W2 (wr.heap.size + 1 + 1) [.slice (some ⟨wr.heap.size, 0, none⟩) 1 1, .slice (some ⟨wr.heap.size + 1, 0, none⟩) 2 2, .int .i64 0, .int .i64 0, .int .i64 0, .int .i64 0, .int .i64 0, .int .i64 0, .int .i64 0, .int .i64 0] := by rw [hW2, ← sW1]; exact Bk.new _ _ _
      replace BW0 := BW0.below dW2
      replace BW1 := BW1.below dW2
      obtain ⟨W3, hW3⟩ : ∃ W3, W3 = W2.alloc (.cells #[.int .i64 q, .int .i64 r] 3) := ⟨_, rfl⟩
      have sW3 : W3.heap.size = wr.heap.size + 1 + 1 + 1 + 1 := by rw [hW3, World.size_alloc, sW2]
      have dW3 : Below W2.heap.size W2 W3 := by rw [hW3]; exact bl1 _
      have cW3 : Below wr.heap.size wr W3 := cW2.trans (dW3.mono cW2.size)
      have BW3 : Bk 3 W3 (wr.heap.size + 1 + 1 + 1) [.int .i64 q, .int .i64 r] := by rw [hW3, ← sW2]; exact Bk.new _ _ _
      replace BW0 := BW0.below dW3
      replace BW1 := BW1.below dW3
      replace BW2 := BW2.below dW3
      obtain ⟨W4, hW4⟩ : ∃ W4, W4 = W3.alloc (.cells #[.int .i64 g0] 3) := ⟨_, rfl⟩
      have sW4 : W4.heap.size = wr.heap.size + 1 + 1 + 1 + 1 + 1 := by rw [hW4, World.size_alloc, sW3]
      have dW4 : Below W3.heap.size W3 W4 := by rw [hW4]; exact bl1 _
      have cW4 : Below wr.heap.size wr W4 := cW3.trans (dW4.mono cW3.size)
      have BW4 : Bk 3 W4 (wr.heap.size + 1 + 1 + 1 + 1) [.int .i64 g0] := by rw [hW4, ← sW3]; exact Bk.new _ _ _
      replace BW0 := BW0.below dW4
      replace BW1 := BW1.below dW4
      replace BW2 := BW2.below dW4
      replace BW3 := BW3.below dW4
      obtain ⟨W5, hW5⟩ : ∃ W5, W5 = W4.alloc (.cells #[.slice (some ⟨wr.heap.size + 1 + 1 + 1, 0, none⟩) 2 2, .slice (some ⟨wr.heap.size + 1 + 1 + 1 + 1, 0, none⟩) 1 1, .int .i64 0, .int .i64 0, .int .i64 0, .int .i64 0, .int .i64 0, .int .i64 0, .int .i64 0, .int .i64 0] 46) := ⟨_, rfl⟩
      have sW5 : W5.heap.size = wr.heap.size + 1 + 1 + 1 + 1 + 1 + 1 := by rw [hW5, World.size_alloc, sW4]
      have dW5 : Below W4.heap.size W4 W5 := by rw [hW5]; exact bl1 _
      have cW5 : Below wr.heap.size wr W5 := cW4.trans (dW5.mono cW4.size)
      have BW5 : Bk 46 W5 (wr.heap.size + 1 + 1 + 1 + 1 + 1) [.slice (some ⟨wr.heap.size + 1 + 1 + 1, 0, none⟩) 2 2, .slice (some ⟨wr.heap.size + 1 + 1 + 1 + 1, 0, none⟩) 1 1, .int .i64 0, .int .i64 0, .int .i64 0, .int .i64 0, .int .i64 0, .int .i64 0, .int .i64 0, .int .i64 0] := by rw [hW5, ← sW4]; exact Bk.new _ _ _
      replace BW0 := BW0.below dW5
      replace BW1 := BW1.below dW5
      replace BW2 := BW2.below dW5
      replace BW3 := BW3.below dW5
      replace BW4 := BW4.below dW5
      obtain ⟨W6, hW6⟩ : ∃ W6, W6 = W5.alloc (.cells #[.int .i64 2, .bool false, .slice (some ⟨wr.heap.size + 1 + 1, 0, none⟩) 1 1, .int .i64 3, .bool false, .slice (some ⟨wr.heap.size + 1 + 1 + 1 + 1 + 1, 0, none⟩) 1 1] 41) := ⟨_, rfl⟩
      have sW6 : W6.heap.size = wr.heap.size + 1 + 1 + 1 + 1 + 1 + 1 + 1 := by rw [hW6, World.size_alloc, sW5]
      have dW6 : Below W5.heap.size W5 W6 := by rw [hW6]; exact bl1 _
      have cW6 : Below wr.heap.size wr W6 := cW5.trans (dW6.mono cW5.size)
      have BW6 : Bk 41 W6 (wr.heap.size + 1 + 1 + 1 + 1 + 1 + 1) [.int .i64 2, .bool false, .slice (some ⟨wr.heap.size + 1 + 1, 0, none⟩) 1 1, .int .i64 3, .bool false, .slice (some ⟨wr.heap.size + 1 + 1 + 1 + 1 + 1, 0, none⟩) 1 1] := by rw [hW6, ← sW5]; exact Bk.new _ _ _
      replace BW0 := BW0.below dW6
      replace BW1 := BW1.below dW6
      replace BW2 := BW2.below dW6
      replace BW3 := BW3.below dW6
      replace BW4 := BW4.below dW6
      replace BW5 := BW5.below dW6
      have t0 : I64 g0 := ⟨by omega, by omega⟩
      have t1 : I64 q := ⟨by omega, by omega⟩
      have t2 : I64 r := ⟨by omega, by omega⟩
      have s0 := grI_of_bk (zs := [g0]) BW0 (by intro z hz; simp at hz; subst hz; exact t0) (by simp)
      have s1 := grI_of_bk (zs := [q, r]) BW1 (by intro z hz; simp at hz; rcases hz with rfl | rfl <;> assumption) (by simp)
      have s3 := grI_of_bk (zs := [q, r]) BW3 (by intro z hz; simp at hz; rcases hz with rfl | rfl <;> assumption) (by simp)
      have s4 := grI_of_bk (zs := [g0]) BW4 (by intro z hz; simp at hz; subst hz; exact t0) (by simp)
      have s2 : Gr RuE (fun _ => True) W6 (some ⟨wr.heap.size + 1 + 1, 0, none⟩) 1 [ru0 [g0] [q, r] 0] := gr1_of_bk BW2 (ru0_rep s0 s1 ⟨by omega, by omega⟩ (by simp) (by simp))
      have s5 : Gr RuE (fun _ => True) W6 (some ⟨wr.heap.size + 1 + 1 + 1 + 1 + 1, 0, none⟩) 1 [ru0 [q, r] [g0] 0] := gr1_of_bk BW5 (ru0_rep s3 s4 ⟨by omega, by omega⟩ (by simp) (by simp))
      have s6 : Gr LkE (fun _ => True) W6 (some ⟨wr.heap.size + 1 + 1 + 1 + 1 + 1 + 1, 0, none⟩) 2 (lsT g0 q r) := gr2_of_bk (cs := [.int .i64 2, .bool false, .slice (some ⟨wr.heap.size + 1 + 1, 0, none⟩) 1 1]) (ds := [.int .i64 3, .bool false, .slice (some ⟨wr.heap.size + 1 + 1 + 1 + 1 + 1, 0, none⟩) 1 1]) BW6 (lk0_rep s2 ⟨by omega, by omega⟩ (by simp)) (lk0_rep s5 ⟨by omega, by omega⟩ (by simp))
      have HR6 : Hid (∀ U, Below W6.heap.size W6 U → Gr LkE (fun _ => True) U (some ⟨wr.heap.size + 1 + 1 + 1 + 1 + 1 + 1, 0, none⟩) 2 (lsT g0 q r)) := fun U hU => s6.below hU
      have hb6 := hb1.trans (cW6.mono hb1.size)
      clear s0 s1 s2 s3 s4 s5 s6 BW0 BW1 BW2 BW3 BW4 BW5 BW6 cW0 cW1 cW2 cW3 cW4 cW5 cW6
      clear sW0 sW1 sW2 sW3 sW4 sW5 sW6 dW0 dW1 dW2 dW3 dW4 dW5 dW6
      go_upto_region 11 with fail
      rw [← hW0, ← hW1, ← hW2, ← hW3, ← hW4, ← hW5, ← hW6]
      clear hW0 hW1 hW2 hW3 hW4 hW5 hW6
      go_wp2
      go_loopw [10, 11] (fun vn v wr => ∃ (k : Nat) (z : Int), v = .int .i64 k ∧ vn = .int .i64 z ∧ Hid (z = (L.length : Int) + (cnP g0 L k : Int)) ∧ z ≤ 1000 ∧ 0 ≤ z ∧ k ≤ L.length ∧ wr = W6) (fun _ v _ => L.length - (intOf v).toNat)
      case atStart => exact ⟨0, (L.length : Int), rfl, rfl, (by show _ = _; unfold cnP; simp), by omega, by omega, Nat.zero_le _, rfl⟩
      case round =>
        rename World => wx
        obtain ⟨k, z, rfl, rfl, HZ, hz1, hz0, hk, rfl⟩ := hrel
        by_cases hkn : k < L.length
        · obtain ⟨b1, o1, ea, hlt1, c1⟩ := (HL.out _ hb6).ri.at (Below.refl _ _) k hkn
          have i1 : (0 : Int) ≤ (k : Int) := by omega
          have i2 : (k : Int) < (L.length : Int) := by omega
          have HYE : Hid (L.getD k 0 = g0 → cnP g0 L (k + 1) = cnP g0 L k + 1) := cnP_yes hkn
          have HNO : Hid (L.getD k 0 ≠ g0 → cnP g0 L (k + 1) = cnP g0 L k) := cnP_no hkn
          have hcn := cnP_le g0 L (k + 1)
          obtain ⟨x, hx⟩ : ∃ x, L.getD k 0 = x := ⟨_, rfl⟩
          rw [hx] at c1 HYE HNO
          subst ea
          clear hx
          by_cases m1 : x = g0
          · have g1 : (x == g0) = true := beq_iff_eq.2 m1
            have HZ2 : Hid (z + 1 = (L.length : Int) + (cnP g0 L (k + 1) : Int)) := by show _ = _; rw [HYE.out m1, HZ.out]; omega
            have hz2 : z + 1 ≤ 1000 := by have := HZ2.out; omega
            clear m1 HYE HNO HZ hcn
            go_wp2
            go_roundw
            case rel => exact ⟨k + 1, z + 1, by first | rfl | go_num, rfl, HZ2, hz2, by omega, by omega, (by first | rfl | trivial)⟩
            case measure => simp [intOf]; omega
          · have g1 : (x == g0) = false := beq_eq_false_iff_ne.2 m1
            have HZ2 : Hid (z = (L.length : Int) + (cnP g0 L (k + 1) : Int)) := by show _ = _; rw [HNO.out m1, HZ.out]
            clear m1 HYE HNO HZ hcn
            go_wp2
            go_roundw
            case rel => exact ⟨k + 1, z, by first | rfl | go_num, rfl, HZ2, hz1, by omega, by omega, (by first | rfl | trivial)⟩
            case measure => simp [intOf]; omega
        · have i2 : ¬ (k : Int) < (L.length : Int) := by omega
          have HZE : Hid (z = ((L.flatMap (spT g0 q r)).length : Int)) := by
            show _ = _
            rw [HZ.out, spT_count, show k = L.length by omega]
            unfold cnP
            rw [List.take_length]
            omega
          have hol : (L.flatMap (spT g0 q r)).length ≤ 100 := by
            rw [spT_count]
            have := List.length_filter_le (fun x => x == g0) L
            omega
          have hfo : foU (lsT g0 q r) 65536 = true := lsT_fo ⟨by omega, by omega⟩ ⟨by omega, by omega⟩ ⟨by omega, by omega⟩
          have h0 := spT_li (p := g0) (q := q) (r := r) ⟨by omega, by omega⟩ ⟨by omega, by omega⟩ ⟨by omega, by omega⟩ L [] (by rw [List.nil_append]; exact hol)
          have h1 := jnT_li (p := g0) (q := q) (r := r) ⟨by omega, by omega⟩ ⟨by omega, by omega⟩ ⟨by omega, by omega⟩ L [] HNM.out (by rw [List.nil_append]; exact hol)
          rw [List.nil_append, List.nil_append] at h0 h1
          obtain ⟨e1, e2⟩ := li_through (k := 0) hfo (by omega) (by show 0 < 2; omega) (by rfl) h0
          obtain ⟨e3, e4⟩ := li_through (k := 1) hfo (by omega) (by show 1 < 2; omega) (by rfl) h1
          have HAL : Hid (alP (lsT g0 q r) [] [0, 1] L = (0, L)) := by
            show (if liE (lsT g0 q r) [] ((0 : Nat) : Int) L = 0 then alP (lsT g0 q r) [] [1] (liL (lsT g0 q r) [] ((0 : Nat) : Int) L) else _) = _
            rw [if_pos e2, e1]
            show (if liE (lsT g0 q r) [] ((1 : Nat) : Int) (L.flatMap (spT g0 q r)) = 0 then alP (lsT g0 q r) [] [] (liL (lsT g0 q r) [] ((1 : Nat) : Int) (L.flatMap (spT g0 q r))) else _) = _
            rw [if_pos e4, e3]
            rfl
          have HE : Hid (liL (lsT g0 q r) [] 0 L = L.flatMap (spT g0 q r) ∧ liE (lsT g0 q r) [] 0 L = 0) := ⟨e1, e2⟩
          have l1 : Calls Tryd.prog 18 #[.slice (some ⟨wr.heap.size + 1 + 1 + 1 + 1 + 1 + 1, 0, none⟩) 2 2, .int .i64 0, .slice none 0 0, .slice a L.length ca] wx fun e w' => LiA (lsT g0 q r) [] 0 L w' e ∧ Below wx.heap.size wx w' :=
            clineU_any (lsT g0 q r) [] (fun _ => True) (fun _ => True) S _ 2 none 0 0 a ca L wx (HR6.out _ (Below.refl _ _)) (Gr.nil _ _ _ _ _ (Nat.zero_le _) (fun _ => rfl)) (HL.out _ hb6) ⟨by omega, by omega⟩ (by omega) (HT.out _ hb6)
          generalize L.flatMap (spT g0 q r) = o at HZE hol HE
          clear HZ h0 h1 e1 e2 e3 e4 hfo
          go_wp2_with fail
          refine l1.mono ?_
          rintro e u1 ⟨⟨pa, pc, he, -⟩, hc1⟩
          rw [HE.out.1, HE.out.2] at he
          subst he
          have hb7 := hb6.trans (hc1.mono hb6.size)
          obtain ⟨U, hU, BU, hbU⟩ : ∃ U, U = u1.alloc (.cells #[.int .i64 0, .int .i64 1] 3) ∧ Bk 3 U u1.heap.size [.int .i64 0, .int .i64 1] ∧ Below u1.heap.size u1 U := ⟨_, rfl, Bk.new _ _ _, bl1 _⟩
          have hb8 := hb7.trans (hbU.mono hb7.size)
          have h6U := hc1.trans (hbU.mono hc1.size)
          have sk := grI_of_bk (zs := [0, 1]) BU (by intro z hz; simp at hz; rcases hz with rfl | rfl <;> exact ⟨by omega, by omega⟩) (by simp)
          have l2 : Calls Tryd.prog 14 #[.slice (some ⟨wr.heap.size + 1 + 1 + 1 + 1 + 1 + 1, 0, none⟩) 2 2, .slice (some ⟨u1.heap.size, 0, none⟩) 2 2, .slice none 0 0, .slice a L.length ca] U fun e w' => AlA (lsT g0 q r) [] [0, 1] L w' e ∧ Below U.heap.size U w' :=
            callU_any (lsT g0 q r) [] (fun _ => True) (fun _ => True) S _ 2 none 0 _ 2 [0, 1] a ca L U (HR6.out _ h6U) (Gr.nil _ _ _ _ _ (Nat.zero_le _) (fun _ => rfl)) sk.ri (HL.out _ hb8) (by omega) (HT.out _ hb8)
          clear l1 hc1 sk BU hbU
          go_wp2_with fail
          rw [← hU]
          clear hU
          refine l2.mono ?_
          rintro e u2 ⟨⟨qa, qc, he, hgq⟩, hc2⟩
          rw [HAL.out] at he hgq
          subst he
          have hb9 := hb8.trans (hc2.mono hb8.size)
          have l3 := ssameI_any qa a qc ca L u2 hgq.ri (HL.out _ hb9).ri
          have g1 : ((o.length : Int) == z) = true := beq_iff_eq.2 HZE.out.symm
          clear l2 hc2 hgq
          go_wp2_with fail
          refine l3.mono ?_
          rintro e u3 ⟨rfl, hc3⟩
          have hfin := hb9.trans (hc3.mono hb9.size)
          clear l3 hc3
          go_wp2
          go_ret
          exact ⟨rfl, hfin⟩

end Go.Proofs.YtechkkefpigcaaaDoor
