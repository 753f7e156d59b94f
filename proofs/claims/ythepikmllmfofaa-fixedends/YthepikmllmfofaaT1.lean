/-
  fixed.To14, near: the walks.
-/
import Derived.Test.YthepikmllmfofaaT0
import Derived.Deep.RegionHeld3
namespace Go.Proofs.Ythepikmllmfofaa
open Go.RowKit
set_option linter.unusedSimpArgs false
set_option linter.unusedVariables false

theorem c14_big {q : Rat} {z : Int} (hz : (q * 16384 + 1 / 2).floor = z) (h : flB z = false) : c14 z = 16384 * sgnQ q := by
  have h1 : ¬ (-9223372036854775808 ≤ z ∧ z < 9223372036854775808) := by unfold flB at h; simpa using h
  have f1 := Rat.floor_le (q * 16384 + 1 / 2)
  have f2 := Rat.lt_floor (x := q * 16384 + 1 / 2)
  rw [hz] at f1 f2
  by_cases h2 : z < 0
  · have h3 : z ≤ -2 := by omega
    have hq : q < 0 := by
      have h4 : ((z : Int) : Rat) ≤ ((-2 : Int) : Rat) := Rat.intCast_le_intCast.2 h3
      grind
    have h0 : q ≠ 0 := by grind
    unfold sgnQ c14
    rw [if_neg h0, if_pos hq, if_pos (by omega)]
    rfl
  · have h3 : 2 ≤ z := by omega
    have hq : ¬ q < 0 := by
      have h4 : ((2 : Int) : Rat) ≤ ((z : Int) : Rat) := Rat.intCast_le_intCast.2 h3
      grind
    have h0 : q ≠ 0 := by
      have h4 : ((2 : Int) : Rat) ≤ ((z : Int) : Rat) := Rat.intCast_le_intCast.2 h3
      grind
    unfold sgnQ c14
    rw [if_neg h0, if_neg hq, if_neg (by omega), if_pos (by omega)]
    rfl

set_option maxHeartbeats 1000000 in
theorem to14_any (k : Nat) (q : Rat) (v : Value) (w : World) (h : Ct w v k q) (hk : k ≤ 10000000) (hk2 : 2 ≤ k) :
    Calls Try.prog 13 #[v] w fun e w' => e = .returned (.int .i64 (to14 q)) ∧ Below w.heap.size w w' := by
  have hX := h
  obtain ⟨n, xs, ys, ⟨a, c, a', c', rfl, _, _⟩, hz1⟩ := h
  clear hz1
  obtain ⟨z, hz⟩ : ∃ z, (q * 16384 + 1 / 2).floor = z := ⟨_, rfl⟩
  unfold to14
  rw [hz]
  have HZ : Hid ((q * 16384 + 1 / 2).floor = z) := hz
  have HS : Hid (flB z = false → c14 z = 16384 * sgnQ q) := c14_big hz
  clear hz
  go_enter Try.func13, Try.ntmps13
  go_wp2_with fail
  obtain ⟨W, hW, B1, hbW⟩ : ∃ W, W = w.alloc (.cells #[.bool n, .slice a xs.length c, .slice a' ys.length c'] 25) ∧ Box 25 W w.heap.size (.bool n) (.slice a xs.length c) (.slice a' ys.length c') ∧ Below w.heap.size w W := ⟨_, rfl, Box.new _ _ _ _ _, al1 _⟩
  rw [← hW]
  clear hW
  replace hX := hX.below hbW
  obtain ⟨p1, p2, p3, _⟩ := B1.cells
  go_region_held3 (fun u => u.cell? ⟨w.heap.size, 0, none⟩ = some (.bool n) ∧ u.cell? ⟨w.heap.size, 1, none⟩ = some (.slice a xs.length c) ∧ u.cell? ⟨w.heap.size, 2, none⟩ = some (.slice a' ys.length c')) (go_keep)
    (first
      | (go_at_call 29
         refine (whole_any 16384 _ (by decide) (by decide)).mono ?_
         rintro e u1 ⟨v1, rfl, hF1, hb1⟩
         replace hb1 : Below W.heap.size W u1 := Below.drew1.trans hb1
         replace hX := hX.below hb1
         replace B1 := B1.below hb1
         replace hbW : Below w.heap.size w u1 := hbW.trans (hb1.mono hbW.size)
         clear hb1 p1 p2 p3
         obtain ⟨p1, p2, p3, _⟩ := B1.cells)
      | (go_at_call 32
         refine (qmul_any k 2 q ((16384 : Int) : Rat) _ _ _ hX hF1.ct ?_ (by decide) hk2 (by decide)).mono ?_
         · omega
         rintro e u2 ⟨v2, rfl, hF2, hb2⟩
         replace hX := hX.below hb2
         replace B1 := B1.below hb2
         replace hbW : Below w.heap.size w u2 := hbW.trans (hb2.mono hbW.size)
         clear hb2 hF1 p1 p2 p3
         obtain ⟨p1, p2, p3, _⟩ := B1.cells)
      | (go_at_call 30
         refine (qround_any (k + 2) (q * ((16384 : Int) : Rat)) _ _ hF2.ct ?_ ?_).mono ?_
         · omega
         · omega
         rintro e u3 ⟨rfl, hb3⟩
         replace hX := hX.below hb3
         replace B1 := B1.below hb3
         replace hbW : Below w.heap.size w u3 := hbW.trans (hb3.mono hbW.size)
         rw [show (q * ((16384 : Int) : Rat) + 1 / 2).floor = z from HZ.out]
         clear hb3 hF2 p1 p2 p3
         obtain ⟨p1, p2, p3, _⟩ := B1.cells))
  by_cases hf : flB z = true
  · have e2 : flN z = z := by unfold flN; rw [if_pos hf]
    rw [hf, e2]
    clear e2 hf
    go_wp2
    go_ret
    exact ⟨ret_num (by unfold c14; split <;> (try split) <;> omega), hbW⟩
  · have e1 : flB z = false := by simpa using hf
    have e2 := HS.out e1
    have e3 : sgnQ q = -1 ∨ sgnQ q = 0 ∨ sgnQ q = 1 := by unfold sgnQ; split <;> (try split) <;> simp
    have E2 : Hid (c14 z = 16384 * sgnQ q) := e2
    clear e2
    rw [e1]
    clear hf e1
    go_wp2_with fail
    refine (qsign_any k q _ _ hX (by omega) hk2).mono ?_
    rintro e u4 ⟨rfl, hb4⟩
    replace hbW : Below w.heap.size w u4 := hbW.trans (hb4.mono hbW.size)
    generalize sgnQ q = s at *
    have s1 : -1 ≤ s := by omega
    have s2 : s ≤ 1 := by omega
    go_wp2
    go_ret
    exact ⟨ret_num (by rw [E2.out]), hbW⟩

/-- A number that Between takes. -/
def nr (z : Int) : Bool := decide (-1099511627776 ≤ z ∧ z ≤ 1099511627776)

set_option maxHeartbeats 1000000 in
theorem near_any (b : Nat) (zs : List Int) (w : World) (hl : zs.length ≤ 4) (hc : ∀ i, i < zs.length → w.cell? ⟨b, i, none⟩ = some (.int .i64 (zs.getD i 0))) :
    Calls Try.prog 39 #[.slice (some ⟨b, 0, none⟩) zs.length 4] w fun e w' => e = .returned (.bool (zs.all nr)) ∧ w = w' := by
  have HC : Hid (∀ i, i < zs.length → w.cell? ⟨b, i, none⟩ = some (.int .i64 (zs.getD i 0))) := hc
  clear hc
  go_enter Try.func39, Try.ntmps39
  go_wp2
  go_loop [7] (fun i => ∃ k : Nat, k ≤ zs.length ∧ i = .int .i64 k ∧ (∀ j, j < k → nr (zs.getD j 0) = true)) (fun i => zs.length - (intOf i).toNat)
  case atStart => exact ⟨0, Nat.zero_le _, rfl, fun j hj => by omega⟩
  case round =>
    obtain ⟨k, hk, rfl, hal⟩ := hrel
    have HA : Hid (∀ j, j < k → nr (zs.getD j 0) = true) := hal
    clear hal
    by_cases hkn : k < zs.length
    · have c1 := HC.out k hkn
      obtain ⟨x, hx⟩ : ∃ x, zs.getD k 0 = x := ⟨_, rfl⟩
      rw [hx] at c1
      have HX : Hid (zs.getD k 0 = x) := hx
      clear hx
      have hm : x ∈ zs := by
        have := HX.out
        rw [List.getD_eq_getElem?_getD, List.getElem?_eq_getElem hkn] at this
        simp at this
        exact this ▸ List.getElem_mem hkn
      by_cases h1 : x < -1099511627776
      · go_wp2
        go_ret
        exact ⟨ret_bool (by
          symm
          rw [List.all_eq_false]
          exact ⟨x, hm, by simp [nr]; omega⟩), rfl⟩
      · by_cases h2 : 1099511627776 < x
        · go_wp2
          go_ret
          exact ⟨ret_bool (by
            symm
            rw [List.all_eq_false]
            exact ⟨x, hm, by simp [nr]; omega⟩), rfl⟩
        · go_wp2
          go_round
          case rel => exact ⟨k + 1, by omega, by go_num, fun j hj => by
            rcases Nat.lt_or_ge j k with h | h
            · exact HA.out j h
            · have : j = k := by omega
              subst this
              rw [HX.out]
              simp [nr]
              omega⟩
          case measure => simp [intOf]; omega
    · obtain rfl : k = zs.length := by omega
      go_wp2
      go_ret
      exact ⟨ret_bool (by
        symm
        rw [List.all_eq_true]
        intro x hx
        obtain ⟨j, hj, rfl⟩ := List.getElem_of_mem hx
        have := HA.out j hj
        rwa [List.getD_eq_getElem?_getD, List.getElem?_eq_getElem hj] at this), rfl⟩

end Go.Proofs.Ythepikmllmfofaa
