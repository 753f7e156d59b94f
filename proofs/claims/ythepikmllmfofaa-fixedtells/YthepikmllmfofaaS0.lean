/-
  foundryref02.one, Zero, Formed, fair, Low, size, Whole, Make: the walks.
-/
import Derived.Test.YthepikmllmfofaaQ9
import Derived.Test.YthepikmllmfofaaRGcd
import Derived.Test.YthepikmllmfofaaROf
import Derived.Test.YthepikmllmfofaaRAdd
namespace Go.Proofs.Ythepikmllmfofaa
open Go.RowKit Classical
set_option linter.unusedSimpArgs false
set_option linter.unusedVariables false

set_option maxHeartbeats 400000 in
theorem sone_any (w : World) :
    Calls Try.prog 57 #[] w fun e w' => ∃ a c ys, e = .returned (.slice a ys.length c) ∧ V ys = 1 ∧ Tr ys ∧ Rd w' a c ys ∧ Below w.heap.size w w' := by
  go_enter Try.func57, Try.ntmps57
  go_wp2_with fail
  refine (rof_any 1 _ (by decide)).mono ?_
  rintro e u ⟨a, c, ys, rfl, h1, h2, h3, h4⟩
  go_wp2
  go_ret
  exact ⟨_, _, _, rfl, h1, h2, h3.rd, h4⟩

theorem fr_zero {w : World} {a : Option Addr} {c : Nat} {ys : List Nat} (hv : V ys = 1) (ht : Tr ys) (hr : Rd w a c ys) : Fr w (.agg #[.bool false, .slice none 0 0, .slice a ys.length c]) 2 0 := by
  refine ⟨false, [], ys, ⟨_, _, _, _, rfl, Rd.nil _ _ _ (Nat.zero_le _) (fun _ => rfl), hr⟩, ⟨tr_nil, ht, ?_, by simp, by rw [hv]; simp⟩, by simp, len_two ht (by omega), ?_⟩
  · rintro rfl; simp [V] at hv
  · unfold qv; rw [hv]; rfl

set_option maxHeartbeats 400000 in
theorem szero_any (w : World) :
    Calls Try.prog 41 #[] w fun e w' => ∃ v', e = .returned v' ∧ Fr w' v' 2 0 ∧ Below w.heap.size w w' := by
  go_enter Try.func41, Try.ntmps41
  go_wp2_with fail
  refine (sone_any _).mono ?_
  rintro e u1 ⟨a, c, ys, rfl, h1, h2, h3, hb1⟩
  obtain ⟨B1, hbW⟩ := after1 hb1
  clear hb1
  obtain ⟨q1, q2, q3, q4, q5, q6⟩ := B1.cells
  have hs := B1.lt
  go_wp2
  exact ret3 (v := .agg #[.bool false, .slice none 0 0, .slice a ys.length c]) B1 rfl (fun U hU => by obtain ⟨r1, r2, r3, _⟩ := hU.cells; simp [results, Try.results41, go_sem, r1, r2, r3]) (fun U hU hK => ⟨_, rfl, fr_zero h1 h2 (hK _ _ _ h3), hU _ _ hbW (by omega)⟩)

theorem gcd_one_iff {zs os : List Nat} (ho : V os = 1) : cmpN (V zs) (V os) = 0 ↔ V zs = 1 := by
  rw [ho]
  unfold cmpN
  by_cases h : V zs < 1
  · rw [if_pos h]; simp; omega
  · rw [if_neg h]; split <;> simp <;> omega

set_option maxHeartbeats 2000000 in
set_option maxRecDepth 100000 in
theorem sformed_any (n : Bool) (a : Option Addr) (c : Nat) (xs : List Nat) (a' : Option Addr) (c' : Nat) (ys : List Nat) (w : World) (hx : Rd w a c xs) (hy : Rd w a' c' ys) (lx : xs.length ≤ 10000000) (ly : ys.length ≤ 10000000) :
    Calls Try.prog 76 #[.agg #[.bool n, .slice a xs.length c, .slice a' ys.length c']] w fun e w' => e = .returned (.bool (decide (Fmd n xs ys))) ∧ Below w.heap.size w w' := by
  have fin : Tr xs → Tr ys → ys ≠ [] → ¬ (n = true ∧ xs = []) → ∀ (W : World), Below w.heap.size w W → ∀ a1 c1 (zs : List Nat) a2 c2 (os : List Nat), Rd W a1 c1 zs → Rd W a2 c2 os → V os = 1 → V zs = Nat.gcd (V xs) (V ys) →
      Calls Try.prog 80 #[.slice a1 zs.length c1, .slice a2 os.length c2] W fun e w' => ∃ s : Int, e = .returned (.int .i64 s) ∧ (s == 0) = decide (Fmd n xs ys) ∧ Below w.heap.size w w' := by
    intro tx ty y0 hn W hb a1 c1 zs a2 c2 os r1 r2 ho hz
    refine (rcmp_any _ _ _ _ _ _ _ r1 r2).mono ?_
    rintro e u ⟨rfl, rfl⟩
    refine ⟨_, rfl, ?_, hb⟩
    have h1 := gcd_one_iff (zs := zs) ho
    have h2 : V zs = 1 ↔ Fmd n xs ys := by rw [hz]; exact ⟨fun h => ⟨tx, ty, y0, hn, h⟩, fun h => h.2.2.2.2⟩
    have h3 := h1.trans h2
    by_cases h : Fmd n xs ys
    · simp [h, h3.2 h]
    · have : ¬ cmpN (V zs) (V os) = 0 := fun h4 => h (h3.1 h4)
      simp [h, this]
  have k1 := hx.le
  have k2 := hx.cap
  have k3 := hy.le
  have k4 := hy.cap
  unfold maxLen at k2 k4
  obtain ⟨p1, p2, p3, _⟩ := (Box.new 34 w (.bool n) (.slice a xs.length c) (.slice a' ys.length c')).cells
  by_cases y0 : ys = []
  · subst y0
    go_enter Try.func76, Try.ntmps76
    go_wp2_with fail
    go_quiet (fail)
    go_wp2
    go_ret
    exact ⟨ret_bool (by simp [Fmd]), below_drewN (al1 _) _⟩
  have hyl : 0 < ys.length := List.length_pos_iff.2 y0
  obtain ⟨m, hm⟩ : ∃ m, ys.length = m + 1 := ⟨ys.length - 1, by omega⟩
  have hty := tr_iff y0
  have fy := hy.fm
  rw [hm] at hty
  simp only [Nat.add_sub_cancel] at hty
  obtain ⟨b, off, rfl, hb, hc⟩ := fy.at (Below.refl _ _) m (by omega)
  obtain ⟨z, hz⟩ : ∃ z, ys.getD m 0 = z := ⟨_, rfl⟩
  rw [hz] at hc hty
  have g1 : ((m : Int) + 1 == 0) = false := beq_eq_false_iff_ne.2 (by omega)
  have hc' : (w.alloc (.cells #[.bool n, .slice a xs.length c, .slice (some ⟨b, off, none⟩) ys.length c'] 34)).cell? ⟨b, off + m, none⟩ = some (.int .u32 (z : Int)) := (World.cell?_of_block (w := w) (a := ⟨b, off + m, none⟩) (Below.heap_alloc _ _ _ hb)).trans hc
  have hne : ¬ b = w.heap.size := by omega
  rw [hm] at hc' k3 p1 p2 p3
  by_cases z0 : z = 0
  · have hnt : ¬ Tr ys := fun h => hty.1 h z0
    subst z0
    rw [hm]
    clear hx hy fy fin
    go_enter Try.func76, Try.ntmps76
    go_wp2_with fail
    go_quiet (fail)
    go_wp2
    go_ret
    exact ⟨ret_bool (by simp [Fmd, hnt]), below_drewN (al1 _) _⟩
  have ty : Tr ys := hty.2 z0
  have gz : ((z : Int) == 0) = false := beq_eq_false_iff_ne.2 (by omega)
  by_cases x0 : xs = []
  · subst x0
    cases n with
    | true =>
      rw [hm]
      clear hx hy fy fin
      go_enter Try.func76, Try.ntmps76
      go_wp2_with fail
      go_quiet (fail)
      go_wp2
      go_ret
      exact ⟨ret_bool (by simp [Fmd]), below_drewN (al1 _) _⟩
    | false =>
      have fin' := fin tr_nil ty y0 (by simp)
      clear fin fy
      have hy' := hy
      rw [hm]
      go_enter Try.func76, Try.ntmps76
      go_wp2_with fail
      go_quiet (fail)
      go_wp2_with fail
      rw [← hm]
      refine (rgcd_any _ _ _ _ _ _ _ (hx.below (below_drewN (al1 _) _)) (hy'.below (below_drewN (al1 _) _)) lx ly).mono ?_
      rintro e u1 ⟨a1, c1, zs, rfl, hv1, ht1, hr1, hb1⟩
      have hbW : Below w.heap.size w u1 := (below_drewN (al1 _) _).trans (hb1.mono (by simp))
      have rz := hr1.rd
      clear hr1 hb1 hx hy hy'
      go_wp2_with fail
      refine (sone_any _).mono ?_
      rintro e u2 ⟨a2, c2, os, rfl, ho, hto, ro, hb2⟩
      replace rz := rz.below hb2
      replace hbW : Below w.heap.size w u2 := hbW.trans (hb2.mono hbW.size)
      clear hb2
      go_wp2_with fail
      refine (fin' _ hbW _ _ _ _ _ _ rz ro ho hv1).mono ?_
      rintro e u3 ⟨s, rfl, hs, hb3⟩
      go_wp2
      go_ret
      exact ⟨rfl, hb3⟩
  have hxl : 0 < xs.length := List.length_pos_iff.2 x0
  obtain ⟨l, hl⟩ : ∃ l, xs.length = l + 1 := ⟨xs.length - 1, by omega⟩
  have htx := tr_iff x0
  have fx := hx.fm
  rw [hl] at htx
  simp only [Nat.add_sub_cancel] at htx
  obtain ⟨b2, off2, rfl, hb2, hc2⟩ := fx.at (Below.refl _ _) l (by omega)
  obtain ⟨x, hxx⟩ : ∃ x, xs.getD l 0 = x := ⟨_, rfl⟩
  rw [hxx] at hc2 htx
  have g2 : ((l : Int) + 1 == 0) = false := beq_eq_false_iff_ne.2 (by omega)
  have hc2' : (w.alloc (.cells #[.bool n, .slice (some ⟨b2, off2, none⟩) xs.length c, .slice (some ⟨b, off, none⟩) ys.length c'] 34)).cell? ⟨b2, off2 + l, none⟩ = some (.int .u32 (x : Int)) := (World.cell?_of_block (w := w) (a := ⟨b2, off2 + l, none⟩) (Below.heap_alloc _ _ _ hb2)).trans hc2
  have hne2 : ¬ b2 = w.heap.size := by omega
  rw [hl, hm] at hc2'
  rw [hl] at hc' k1 p1 p2 p3
  by_cases xz : x = 0
  · have hnt : ¬ Tr xs := fun h => htx.1 h xz
    subst xz
    rw [hm, hl]
    clear hx hy fy fx fin
    go_enter Try.func76, Try.ntmps76
    go_wp2_with fail
    go_quiet (fail)
    go_wp2
    go_ret
    exact ⟨ret_bool (by simp [Fmd, hnt]), below_drewN (al1 _) _⟩
  have tx : Tr xs := htx.2 xz
  have gx : ((x : Int) == 0) = false := beq_eq_false_iff_ne.2 (by omega)
  have fin' := fin tx ty y0 (fun h => x0 h.2)
  have hy' := hy
  clear fin fy fx
  have key : ∀ i j : Nat, i = xs.length → j = ys.length → Calls Try.prog 76 #[.agg #[.bool n, .slice (some ⟨b2, off2, none⟩) i c, .slice (some ⟨b, off, none⟩) j c']] w fun e w' => e = .returned (.bool (decide (Fmd n xs ys))) ∧ Below w.heap.size w w' := by
    intro i j hi hj
    rw [hl] at hi
    rw [hm] at hj
    subst hi hj
    go_enter Try.func76, Try.ntmps76
    go_wp2_with fail
    go_quiet (fail)
    go_wp2_with fail
    rw [← hl, ← hm]
    refine (rgcd_any _ _ _ _ _ _ _ (hx.below (below_drewN (al1 _) _)) (hy'.below (below_drewN (al1 _) _)) lx ly).mono ?_
    rintro e u1 ⟨a1, c1, zs, rfl, hv1, ht1, hr1, hb1⟩
    have hbW : Below w.heap.size w u1 := (below_drewN (al1 _) _).trans (hb1.mono (by simp))
    have rz := hr1.rd
    clear hr1 hb1 hx hy hy'
    go_wp2_with fail
    refine (sone_any _).mono ?_
    rintro e u2 ⟨a2, c2, os, rfl, ho, hto, ro, hb2⟩
    replace rz := rz.below hb2
    replace hbW : Below w.heap.size w u2 := hbW.trans (hb2.mono hbW.size)
    clear hb2
    go_wp2_with fail
    refine (fin' _ hbW _ _ _ _ _ _ rz ro ho hv1).mono ?_
    rintro e u3 ⟨s, rfl, hs, hb3⟩
    go_wp2
    go_ret
    exact ⟨rfl, hb3⟩
  exact key _ _ rfl rfl

end Go.Proofs.Ythepikmllmfofaa
