/-
  foundryref01.Of: the walk.
  foundryref01.Add: the walk.
  foundryref02.one, Zero, Formed, fair, Low, size, Whole, Make: the walks.
  foundryref02.fair, Low, size, Whole, Make: the walks.
-/
import Derived.Test.YtchdoakoelfenaaGreatZX27
import Derived.Test.YtchdoakoelfenaaGreatZX7
import Derived.Test.YtchdoakoelfenaaGreatZX8
import Derived.Laws.BitsAllLaws
import Derived.Test.YtchdoakoelfenaaGreatZX13
import Derived.Test.YtchdoakoelfenaaGreatZX28
namespace Go.Proofs.YtchdoakoelfenaaGreat
open Go.RowKit
set_option linter.unusedSimpArgs false
set_option linter.unusedVariables false

set_option maxHeartbeats 800000 in
set_option maxRecDepth 100000 in
theorem rof_any (n : Nat) (w : World) (hn : n < 18446744073709551616) :
    Calls Tryz.prog 85 #[.int .u64 (n : Int)] w fun e w' => ∃ a cap ys, e = .returned (.slice a ys.length cap) ∧ V ys = n ∧ Tr ys ∧ Res 136 w.heap.size w' a cap ys ∧ Below w.heap.size w w' := by
  obtain ⟨i0, hi, hz0, hz1, hz2⟩ := info_parts info_limb
  go_enter Tryz.func85, Tryz.ntmps85
  go_wp2
  go_loopw [0, 3] (fun s out wr => ∃ (k m : Nat) (zs : List Nat), s = .int .u64 m ∧ m < 18446744073709551616 ∧ k = zs.length ∧ k ≤ 2 ∧ (k = 2 → m = 0) ∧ (k = 1 → m < 4294967296) ∧ Lim zs ∧ (m = 0 → Tr zs) ∧ V zs + 4294967296 ^ k * m = n ∧ wr.ownsRow w.heap.size 136 1 out k (zs.map U) ∧ Below w.heap.size w wr) (fun s _ _ => (intOf s).toNat)
  case atStart => exact ⟨0, n, [], rfl, hn, rfl, by decide, fun h => by omega, fun h => by omega, Lim.nil, fun _ => tr_nil, by simp [V], World.ownsRow_nil _ _ _ _, Below.refl _ _⟩
  case round =>
    obtain ⟨k, m, zs, rfl, hm, hkz, hk2, hm2, hm1, lz, htr, heq, hown, hnx⟩ := hrel
    have HE : Hid (V zs + 4294967296 ^ k * m = n) := heq
    have HZ : Hid (k = zs.length) := hkz
    have H2 : Hid ((k = 2 → m = 0) ∧ (k = 1 → m < 4294967296)) := ⟨hm2, hm1⟩
    have HT : Hid (m = 0 → Tr zs) := htr
    have hsz := hnx.size
    clear heq hkz hm2 hm1 htr
    by_cases hm0 : m = 0
    · subst hm0
      obtain ⟨a', cap', rfl, hres⟩ := Res.of lz hown
      clear hown
      go_wp2
      go_ret
      refine ⟨a', cap', zs, rfl, ?_, HT.out (by first | rfl | trivial), hres, hnx⟩
      have := HE.out; omega
    · have hp : 1 ≤ m := by omega
      have hk1 : k ≤ 1 := by have := H2.out.1; omega
      go_wp2_with (at_builtin; refine wpList_append_one rfl _ _ 89 rfl w.heap.size 136 i0 Tryz.underlying89 hi hz0 hz1 hz2 _ k zs rfl (hown.alloc _) wr.heap.size (m % 4294967296) rfl (cell_new1 _ _ _ _ (by omega)) (by omega) (by simp; omega) ?_)
      intro v' w1 hown1 hgrow1
      have hb1 : Below w.heap.size w w1 := (hnx.alloc hsz _).grown hgrow1 (by simp; omega) (fun k hk => (hown.lt k hk).1)
      clear hown
      go_wp2
      go_roundw
      case rel =>
        refine ⟨k + 1, m / 4294967296, zs ++ [m % 4294967296], by go_num, by omega, by rw [HZ.out]; simp, by omega, fun h => by have := H2.out.2; omega, fun h => by omega, lz.snoc (by omega), fun h => tr_snoc (by omega), ?_, own_snoc hown1, hb1⟩
        rw [V_snoc, ← HZ.out, ← HE.out, Nat.pow_succ]
        have hd := Nat.mod_add_div m 4294967296
        generalize m % 4294967296 = r at hd ⊢
        generalize m / 4294967296 = d at hd ⊢
        subst hd
        grind
      case measure => simp [intOf]; omega


end Go.Proofs.YtchdoakoelfenaaGreat

namespace Go.Proofs.YtchdoakoelfenaaGreat
open Go.RowKit
set_option linter.unusedSimpArgs false
set_option linter.unusedVariables false

set_option maxHeartbeats 1600000 in
set_option maxRecDepth 100000 in
theorem radd_any (a : Option Addr) (cap : Nat) (xs : List Nat) (b : Option Addr) (cbp : Nat) (ys : List Nat) (w : World) (ha : Rd w a cap xs) (hb : Rd w b cbp ys) (hla : xs.length ≤ 500000000) (hlb : ys.length ≤ 500000000) :
    Calls Tryz.prog 76 #[.slice a xs.length cap, .slice b ys.length cbp] w fun e w' =>
      ∃ a' cap' zs, e = .returned (.slice a' zs.length cap') ∧ V zs = V xs + V ys ∧ Tr zs ∧ Res 136 w.heap.size w' a' cap' zs ∧ Below w.heap.size w w' := by
  obtain ⟨i0, hi, hz0, hz1, hz2⟩ := info_parts info_limb
  have lL := ha.lim
  have lS := hb.lim
  have fL := ha.fm
  have fS := hb.fm
  have q1 := ha.le
  have q2 := ha.cap
  have q3 := hb.le
  have q4 := hb.cap
  unfold maxLen at q2 q4
  clear ha hb
  obtain ⟨mx, hmx1, hmx2, hmx3⟩ : ∃ mx, xs.length ≤ mx ∧ ys.length ≤ mx ∧ (mx = xs.length ∨ mx = ys.length) := ⟨max xs.length ys.length, by omega, by omega, by omega⟩
  go_enter Tryz.func76, Tryz.ntmps76
  go_wp2
  go_loopw [5, 6, 7] (fun out c i wr => ∃ (k : Nat) (zs : List Nat) (cy : Nat), k ≤ mx + 1 ∧ i = .int .i64 k ∧ c = .int .u64 cy ∧ cy ≤ 1 ∧ (k = mx + 1 → cy = 0) ∧ zs.length = k ∧ Lim zs ∧ V zs + 4294967296 ^ k * cy = V (xs.take k) + V (ys.take k) ∧ wr.ownsRow w.heap.size 136 1 out k (zs.map U) ∧ Below w.heap.size w wr) (fun _ _ i _ => mx + 1 - (intOf i).toNat)
  case atStart => exact ⟨0, [], 0, Nat.zero_le _, rfl, rfl, Nat.zero_le _, fun _ => rfl, rfl, Lim.nil, by simp [V], World.ownsRow_nil _ _ _ _, Below.refl _ _⟩
  case round =>
    obtain ⟨k, zs, cy, hk, rfl, rfl, hcy, hlast, hzl, lz, heq, hown, hnx⟩ := hrel
    have HE : Hid (V zs + 4294967296 ^ k * cy = V (xs.take k) + V (ys.take k)) := heq
    have HZ : Hid (zs.length = k) := hzl
    have HLA : Hid (k = mx + 1 → cy = 0) := hlast
    have hsz := hnx.size
    clear heq hzl hlast
    obtain ⟨x, hx⟩ : ∃ x, xs.getD k 0 = x := ⟨_, rfl⟩
    obtain ⟨y, hy⟩ : ∃ y, ys.getD k 0 = y := ⟨_, rfl⟩
    have bx : x < 4294967296 := by rw [← hx]; exact lL.getD k
    have byy : y < 4294967296 := by rw [← hy]; exact lS.getD k
    have HX : Hid (xs.getD k 0 = x) := hx
    have HY : Hid (ys.getD k 0 = y) := hy
    clear hx hy
    by_cases hkn : k < xs.length
    · obtain ⟨bl, ol, rfl, _, hcl⟩ := fL.at hnx k hkn
      rw [HX.out] at hcl
      by_cases hkm : k < ys.length
      · obtain ⟨bs, os, rfl, _, hcs⟩ := fS.at hnx k hkm
        rw [HY.out] at hcs
        go_wp2_with (at_builtin; refine wpList_append_one rfl _ _ 89 rfl w.heap.size 136 i0 Tryz.underlying89 hi hz0 hz1 hz2 _ k zs rfl (hown.alloc _) wr.heap.size ((cy + x + y) % 4294967296) rfl (cell_new1 _ _ _ _ (by omega)) (by omega) (by simp; omega) ?_)
        intro v' w1 hown1 hgrow1
        have hb1 : Below w.heap.size w w1 := (hnx.alloc hsz _).grown hgrow1 (by simp; omega) (fun k hk => (hown.lt k hk).1)
        clear hown
        go_wp2
        go_roundw
        case rel =>
          exact ⟨k + 1, zs ++ [(cy + x + y) % 4294967296], (cy + x + y) / 4294967296, by omega, by go_num, by go_num, by omega, by omega, by simp [HZ.out], lz.snoc (by omega), add_step HZ.out HE.out HX.out HY.out (by omega), own_snoc hown1, hb1⟩
        case measure => simp [intOf]; omega
      · have y0 : y = 0 := by rw [← HY.out]; exact getD_past _ _ (by omega)
        subst y0
        go_wp2_with (at_builtin; refine wpList_append_one rfl _ _ 89 rfl w.heap.size 136 i0 Tryz.underlying89 hi hz0 hz1 hz2 _ k zs rfl (hown.alloc _) wr.heap.size ((cy + x) % 4294967296) rfl (cell_new1 _ _ _ _ (by omega)) (by omega) (by simp; omega) ?_)
        intro v' w1 hown1 hgrow1
        have hb1 : Below w.heap.size w w1 := (hnx.alloc hsz _).grown hgrow1 (by simp; omega) (fun k hk => (hown.lt k hk).1)
        clear hown
        go_wp2
        go_roundw
        case rel =>
          exact ⟨k + 1, zs ++ [(cy + x) % 4294967296], (cy + x) / 4294967296, by omega, by go_num, by go_num, by omega, by omega, by simp [HZ.out], lz.snoc (by omega), add_step HZ.out HE.out HX.out HY.out (by omega), own_snoc hown1, hb1⟩
        case measure => simp [intOf]; omega
    · have x0 : x = 0 := by rw [← HX.out]; exact getD_past _ _ (by omega)
      subst x0
      by_cases hkm : k < ys.length
      · obtain ⟨bs, os, rfl, _, hcs⟩ := fS.at hnx k hkm
        rw [HY.out] at hcs
        go_wp2_with (at_builtin; refine wpList_append_one rfl _ _ 89 rfl w.heap.size 136 i0 Tryz.underlying89 hi hz0 hz1 hz2 _ k zs rfl (hown.alloc _) wr.heap.size ((cy + y) % 4294967296) rfl (cell_new1 _ _ _ _ (by omega)) (by omega) (by simp; omega) ?_)
        intro v' w1 hown1 hgrow1
        have hb1 : Below w.heap.size w w1 := (hnx.alloc hsz _).grown hgrow1 (by simp; omega) (fun k hk => (hown.lt k hk).1)
        clear hown
        go_wp2
        go_roundw
        case rel =>
          exact ⟨k + 1, zs ++ [(cy + y) % 4294967296], (cy + y) / 4294967296, by omega, by go_num, by go_num, by omega, by omega, by simp [HZ.out], lz.snoc (by omega), add_step HZ.out HE.out HX.out HY.out (by omega), own_snoc hown1, hb1⟩
        case measure => simp [intOf]; omega
      · have y0 : y = 0 := by rw [← HY.out]; exact getD_past _ _ (by omega)
        subst y0
        have g1 : decide ((k : Int) < (xs.length : Int)) = false := by simp; omega
        have g2 : decide ((k : Int) < (ys.length : Int)) = false := by simp; omega
        by_cases hc1 : cy = 0
        · subst hc1
          obtain ⟨a', cap', rfl, hres⟩ := Res.of lz hown
          clear hown
          go_wp2_with fail
          refine (rtrim_any _ _ _ _ hres.rd (by rw [HZ.out]; omega)).mono ?_
          rintro e w2 ⟨a2, c2, rfl, hr2, hb2⟩
          go_wp2
          go_ret
          refine ⟨a2, c2, _, rfl, ?_, tr_strip _, hr2.mono hsz, hnx.trans (hb2.mono hsz)⟩
          have h1 := HE.out
          rw [List.take_of_length_le (by omega), List.take_of_length_le (by omega)] at h1
          rw [V_strip]; omega
        · have hkmx : k ≤ mx := by have := HLA.out; omega
          have hc2 : 1 ≤ cy := by omega
          clear hc1
          go_wp2_with (at_builtin; refine wpList_append_one rfl _ _ 89 rfl w.heap.size 136 i0 Tryz.underlying89 hi hz0 hz1 hz2 _ k zs rfl (hown.alloc _) wr.heap.size ((cy) % 4294967296) rfl (cell_new1 _ _ _ _ (by omega)) (by omega) (by simp; omega) ?_)
          intro v' w1 hown1 hgrow1
          have hb1 : Below w.heap.size w w1 := (hnx.alloc hsz _).grown hgrow1 (by simp; omega) (fun k hk => (hown.lt k hk).1)
          clear hown
          go_wp2
          go_roundw
          case rel =>
            exact ⟨k + 1, zs ++ [(cy) % 4294967296], (cy) / 4294967296, by omega, by go_num, by go_num, by omega, by omega, by simp [HZ.out], lz.snoc (by omega), add_step HZ.out HE.out HX.out HY.out (by omega), own_snoc hown1, hb1⟩
          case measure => simp [intOf]; omega

end Go.Proofs.YtchdoakoelfenaaGreat

namespace Go.Proofs.YtchdoakoelfenaaGreat
open Go.RowKit Classical
set_option linter.unusedSimpArgs false
set_option linter.unusedVariables false

set_option maxHeartbeats 400000 in
set_option maxRecDepth 100000 in
theorem sone_any (w : World) :
    Calls Tryz.prog 66 #[] w fun e w' => ∃ a c ys, e = .returned (.slice a ys.length c) ∧ V ys = 1 ∧ Tr ys ∧ Rd w' a c ys ∧ Below w.heap.size w w' := by
  go_enter Tryz.func66, Tryz.ntmps66
  go_wp2_with fail
  refine (rof_any 1 _ (by decide)).mono ?_
  rintro e u ⟨a, c, ys, rfl, h1, h2, h3, h4⟩
  go_wp2
  go_ret
  exact ⟨_, _, _, rfl, h1, h2, h3.rd, h4⟩

theorem fr_zero {w : World} {a : Option Addr} {c : Nat} {ys : List Nat} (hv : V ys = 1) (ht : Tr ys) (hr : Rd w a c ys) : Fr w (.agg #[.bool false, .slice none 0 0, .slice a ys.length c]) 2 0 := by
  refine ⟨false, [], ys, ⟨_, _, _, _, rfl, Rd.nil _ _ _ (Nat.zero_le _) (fun _ => rfl), hr⟩, ⟨tr_nil, ht, ?_, by simp, by rw [hv]; simp⟩, by simp, len_two ht (by omega), ?_⟩
  · rintro rfl; simp [V] at hv
  · unfold qv; rw [hv]; rfl

set_option maxHeartbeats 400000 in
set_option maxRecDepth 100000 in
theorem szero_any (w : World) :
    Calls Tryz.prog 67 #[] w fun e w' => ∃ v', e = .returned v' ∧ Fr w' v' 2 0 ∧ Below w.heap.size w w' := by
  go_enter Tryz.func67, Tryz.ntmps67
  go_wp2_with fail
  refine (sone_any _).mono ?_
  rintro e u1 ⟨a, c, ys, rfl, h1, h2, h3, hb1⟩
  obtain ⟨B1, hbW⟩ := after1 hb1
  clear hb1
  obtain ⟨q1, q2, q3, q4, q5, q6⟩ := B1.cells
  have hs := B1.lt
  go_wp2
  exact ret3 (v := .agg #[.bool false, .slice none 0 0, .slice a ys.length c]) B1 rfl (fun U hU => by obtain ⟨r1, r2, r3, _⟩ := hU.cells; simp [results, Tryz.results67, go_sem, r1, r2, r3]) (fun U hU hK => ⟨_, rfl, fr_zero h1 h2 (hK _ _ _ h3), hU _ _ hbW (by omega)⟩)

theorem gcd_one_iff {zs os : List Nat} (ho : V os = 1) : cmpN (V zs) (V os) = 0 ↔ V zs = 1 := by
  rw [ho]
  unfold cmpN
  by_cases h : V zs < 1
  · rw [if_pos h]; simp; omega
  · rw [if_neg h]; split <;> simp <;> omega

set_option maxHeartbeats 2000000 in
set_option maxRecDepth 100000 in
theorem sformed_any (n : Bool) (a : Option Addr) (c : Nat) (xs : List Nat) (a' : Option Addr) (c' : Nat) (ys : List Nat) (w : World) (hx : Rd w a c xs) (hy : Rd w a' c' ys) (lx : xs.length ≤ 10000000) (ly : ys.length ≤ 10000000) :
    Calls Tryz.prog 78 #[.agg #[.bool n, .slice a xs.length c, .slice a' ys.length c']] w fun e w' => e = .returned (.bool (decide (Fmd n xs ys))) ∧ Below w.heap.size w w' := by
  have fin : Tr xs → Tr ys → ys ≠ [] → ¬ (n = true ∧ xs = []) → ∀ (W : World), Below w.heap.size w W → ∀ a1 c1 (zs : List Nat) a2 c2 (os : List Nat), Rd W a1 c1 zs → Rd W a2 c2 os → V os = 1 → V zs = Nat.gcd (V xs) (V ys) →
      Calls Tryz.prog 79 #[.slice a1 zs.length c1, .slice a2 os.length c2] W fun e w' => ∃ s : Int, e = .returned (.int .i64 s) ∧ (s == 0) = decide (Fmd n xs ys) ∧ Below w.heap.size w w' := by
    intro tx ty y0 hn W hb a1 c1 zs a2 c2 os r1 r2 ho hz
    refine (rcmp_any _ _ _ _ _ _ _ r1 r2).mono ?_
    rintro e u ⟨rfl, rfl⟩
    refine ⟨_, rfl, ?_, hb⟩
    have h1 := gcd_one_iff (zs := zs) ho
    have h2 : V zs = 1 ↔ Fmd n xs ys := by rw [hz]; exact ⟨fun h => ⟨tx, ty, y0, hn, h⟩, fun h => h.2.2.2.2⟩
    have h3 := h1.trans h2
    by_cases h : Fmd n xs ys
    · simp [h, h3.2 h]
    · have : ¬ cmpN (V zs) (V os) = 0 := fun h4 => h (h3.1 h4)
      simp [h, this]
  have k1 := hx.le
  have k2 := hx.cap
  have k3 := hy.le
  have k4 := hy.cap
  unfold maxLen at k2 k4
  obtain ⟨p1, p2, p3, _⟩ := (Box.new 91 w (.bool n) (.slice a xs.length c) (.slice a' ys.length c')).cells
  by_cases y0 : ys = []
  · subst y0
    go_enter Tryz.func78, Tryz.ntmps78
    go_wp2_with fail
    go_quiet (fail)
    go_wp2
    go_ret
    exact ⟨ret_bool (by simp [Fmd]), below_drewN (al1 _) _⟩
  have hyl : 0 < ys.length := List.length_pos_iff.2 y0
  obtain ⟨m, hm⟩ : ∃ m, ys.length = m + 1 := ⟨ys.length - 1, by omega⟩
  have hty := tr_iff y0
  have fy := hy.fm
  rw [hm] at hty
  simp only [Nat.add_sub_cancel] at hty
  obtain ⟨b, off, rfl, hb, hc⟩ := fy.at (Below.refl _ _) m (by omega)
  obtain ⟨z, hz⟩ : ∃ z, ys.getD m 0 = z := ⟨_, rfl⟩
  rw [hz] at hc hty
  have g1 : ((m : Int) + 1 == 0) = false := beq_eq_false_iff_ne.2 (by omega)
  have hc' : (w.alloc (.cells #[.bool n, .slice a xs.length c, .slice (some ⟨b, off, none⟩) ys.length c'] 91)).cell? ⟨b, off + m, none⟩ = some (.int .u32 (z : Int)) := (World.cell?_of_block (w := w) (a := ⟨b, off + m, none⟩) (Below.heap_alloc _ _ _ hb)).trans hc
  have hne : ¬ b = w.heap.size := by omega
  rw [hm] at hc' k3 p1 p2 p3
  by_cases z0 : z = 0
  · have hnt : ¬ Tr ys := fun h => hty.1 h z0
    subst z0
    rw [hm]
    clear hx hy fy fin
    go_enter Tryz.func78, Tryz.ntmps78
    go_wp2_with fail
    go_quiet (fail)
    go_wp2
    go_ret
    exact ⟨ret_bool (by simp [Fmd, hnt]), below_drewN (al1 _) _⟩
  have ty : Tr ys := hty.2 z0
  have gz : ((z : Int) == 0) = false := beq_eq_false_iff_ne.2 (by omega)
  by_cases x0 : xs = []
  · subst x0
    cases n with
    | true =>
      rw [hm]
      clear hx hy fy fin
      go_enter Tryz.func78, Tryz.ntmps78
      go_wp2_with fail
      go_quiet (fail)
      go_wp2
      go_ret
      exact ⟨ret_bool (by simp [Fmd]), below_drewN (al1 _) _⟩
    | false =>
      have fin' := fin tr_nil ty y0 (by simp)
      clear fin fy
      have hy' := hy
      rw [hm]
      go_enter Tryz.func78, Tryz.ntmps78
      go_wp2_with fail
      go_quiet (fail)
      go_wp2_with fail
      rw [← hm]
      refine (rgcd_any _ _ _ _ _ _ _ (hx.below (below_drewN (al1 _) _)) (hy'.below (below_drewN (al1 _) _)) lx ly).mono ?_
      rintro e u1 ⟨a1, c1, zs, rfl, hv1, ht1, hr1, hb1⟩
      have hbW : Below w.heap.size w u1 := (below_drewN (al1 _) _).trans (hb1.mono (by simp))
      have rz := hr1.rd
      clear hr1 hb1 hx hy hy'
      go_wp2_with fail
      refine (sone_any _).mono ?_
      rintro e u2 ⟨a2, c2, os, rfl, ho, hto, ro, hb2⟩
      replace rz := rz.below hb2
      replace hbW : Below w.heap.size w u2 := hbW.trans (hb2.mono hbW.size)
      clear hb2
      go_wp2_with fail
      refine (fin' _ hbW _ _ _ _ _ _ rz ro ho hv1).mono ?_
      rintro e u3 ⟨s, rfl, hs, hb3⟩
      go_wp2
      go_ret
      exact ⟨rfl, hb3⟩
  have hxl : 0 < xs.length := List.length_pos_iff.2 x0
  obtain ⟨l, hl⟩ : ∃ l, xs.length = l + 1 := ⟨xs.length - 1, by omega⟩
  have htx := tr_iff x0
  have fx := hx.fm
  rw [hl] at htx
  simp only [Nat.add_sub_cancel] at htx
  obtain ⟨b2, off2, rfl, hb2, hc2⟩ := fx.at (Below.refl _ _) l (by omega)
  obtain ⟨x, hxx⟩ : ∃ x, xs.getD l 0 = x := ⟨_, rfl⟩
  rw [hxx] at hc2 htx
  have g2 : ((l : Int) + 1 == 0) = false := beq_eq_false_iff_ne.2 (by omega)
  have hc2' : (w.alloc (.cells #[.bool n, .slice (some ⟨b2, off2, none⟩) xs.length c, .slice (some ⟨b, off, none⟩) ys.length c'] 91)).cell? ⟨b2, off2 + l, none⟩ = some (.int .u32 (x : Int)) := (World.cell?_of_block (w := w) (a := ⟨b2, off2 + l, none⟩) (Below.heap_alloc _ _ _ hb2)).trans hc2
  have hne2 : ¬ b2 = w.heap.size := by omega
  rw [hl, hm] at hc2'
  rw [hl] at hc' k1 p1 p2 p3
  by_cases xz : x = 0
  · have hnt : ¬ Tr xs := fun h => htx.1 h xz
    subst xz
    rw [hm, hl]
    clear hx hy fy fx fin
    go_enter Tryz.func78, Tryz.ntmps78
    go_wp2_with fail
    go_quiet (fail)
    go_wp2
    go_ret
    exact ⟨ret_bool (by simp [Fmd, hnt]), below_drewN (al1 _) _⟩
  have tx : Tr xs := htx.2 xz
  have gx : ((x : Int) == 0) = false := beq_eq_false_iff_ne.2 (by omega)
  have fin' := fin tx ty y0 (fun h => x0 h.2)
  have hy' := hy
  clear fin fy fx
  have key : ∀ i j : Nat, i = xs.length → j = ys.length → Calls Tryz.prog 78 #[.agg #[.bool n, .slice (some ⟨b2, off2, none⟩) i c, .slice (some ⟨b, off, none⟩) j c']] w fun e w' => e = .returned (.bool (decide (Fmd n xs ys))) ∧ Below w.heap.size w w' := by
    intro i j hi hj
    rw [hl] at hi
    rw [hm] at hj
    subst hi hj
    go_enter Tryz.func78, Tryz.ntmps78
    go_wp2_with fail
    go_quiet (fail)
    go_wp2_with fail
    rw [← hl, ← hm]
    refine (rgcd_any _ _ _ _ _ _ _ (hx.below (below_drewN (al1 _) _)) (hy'.below (below_drewN (al1 _) _)) lx ly).mono ?_
    rintro e u1 ⟨a1, c1, zs, rfl, hv1, ht1, hr1, hb1⟩
    have hbW : Below w.heap.size w u1 := (below_drewN (al1 _) _).trans (hb1.mono (by simp))
    have rz := hr1.rd
    clear hr1 hb1 hx hy hy'
    go_wp2_with fail
    refine (sone_any _).mono ?_
    rintro e u2 ⟨a2, c2, os, rfl, ho, hto, ro, hb2⟩
    replace rz := rz.below hb2
    replace hbW : Below w.heap.size w u2 := hbW.trans (hb2.mono hbW.size)
    clear hb2
    go_wp2_with fail
    refine (fin' _ hbW _ _ _ _ _ _ rz ro ho hv1).mono ?_
    rintro e u3 ⟨s, rfl, hs, hb3⟩
    go_wp2
    go_ret
    exact ⟨rfl, hb3⟩
  exact key _ _ rfl rfl

end Go.Proofs.YtchdoakoelfenaaGreat

namespace Go.Proofs.YtchdoakoelfenaaGreat
open Go.RowKit Classical
set_option linter.unusedSimpArgs false
set_option linter.unusedVariables false

set_option maxHeartbeats 1000000 in
set_option maxRecDepth 100000 in
theorem sfair_any (k : Nat) (q : Rat) (v : Value) (w : World) (h : Ct w v k q) (hk : k ≤ 10000000) (hk2 : 2 ≤ k) :
    Calls Tryz.prog 61 #[v] w fun e w' => ∃ v', e = .returned v' ∧ Fr w' v' k q ∧ Below w.heap.size w w' := by
  obtain ⟨n, xs, ys, ⟨a, c, a', c', rfl, hx, hy⟩, lx, ly, hq⟩ := h
  have HQ : Hid (q = if Fmd n xs ys then qv n xs ys else 0) := hq
  clear hq
  go_enter Tryz.func61, Tryz.ntmps61
  go_wp2_with fail
  refine (sformed_any _ _ _ _ _ _ _ _ (hx.below (al2 _ _)) (hy.below (al2 _ _)) (by omega) (by omega)).mono ?_
  rintro e u1 ⟨rfl, hb1⟩
  replace hx := (hx.below (al2 _ _)).below hb1
  replace hy := (hy.below (al2 _ _)).below hb1
  obtain ⟨B1, B2, hbW⟩ := after2 hb1
  obtain ⟨p1, p2, p3, _⟩ := B1.cells
  obtain ⟨q1, q2, q3, q4, q5, q6⟩ := B2.cells
  have hs := B2.lt
  clear hb1
  by_cases hf : Fmd n xs ys
  · have e1 : decide (Fmd n xs ys) = true := decide_eq_true hf
    rw [e1]
    clear e1
    go_wp2
    refine ret3 (v := .agg #[.bool n, .slice a xs.length c, .slice a' ys.length c']) B2 rfl (fun U hU => by obtain ⟨r1, r2, r3, _⟩ := hU.cells; simp [results, Tryz.results61, go_sem, r1, r2, r3]) (fun U hU hK => ⟨_, rfl, ⟨_, _, _, ⟨_, _, _, _, rfl, hK _ _ _ hx, hK _ _ _ hy⟩, hf, lx, ly, by rw [HQ.out, if_pos hf]⟩, hU _ _ hbW (by omega)⟩)
  · have e1 : decide (Fmd n xs ys) = false := decide_eq_false hf
    rw [e1]
    clear e1
    go_wp2_with fail
    refine (szero_any _).mono ?_
    rintro e u2 ⟨v2, rfl, hF, hb2⟩
    replace B2 := B2.below hb2
    replace hbW : Below w.heap.size w u2 := hbW.trans (hb2.mono hbW.size)
    clear q1 q2 q3 q4 q5 q6
    obtain ⟨q1, q2, q3, q4, q5, q6⟩ := B2.cells
    have hs' := B2.lt
    obtain ⟨n', xs', ys', ⟨b, d, b', d', rfl, hx', hy'⟩, hf', lx', ly', he⟩ := hF
    go_wp2
    refine ret3 (v := .agg #[.bool n', .slice b xs'.length d, .slice b' ys'.length d']) B2 rfl (fun U hU => by obtain ⟨r1, r2, r3, _⟩ := hU.cells; simp [results, Tryz.results61, go_sem, r1, r2, r3]) (fun U hU hK => ⟨_, rfl, ⟨_, _, _, ⟨_, _, _, _, rfl, hK _ _ _ hx', hK _ _ _ hy'⟩, hf', by omega, by omega, by rw [HQ.out, if_neg hf, he]⟩, hU _ _ hbW (by omega)⟩)

set_option maxHeartbeats 1000000 in
set_option maxRecDepth 100000 in
theorem slow_any (k : Nat) (n : Bool) (a : Option Addr) (c : Nat) (xs : List Nat) (a' : Option Addr) (c' : Nat) (ys : List Nat) (w : World) (hx : Rd w a c xs) (hy : Rd w a' c' ys) (y0 : V ys ≠ 0) (lx : xs.length ≤ k) (ly : ys.length ≤ k) (hk : k ≤ 10000000) :
    Calls Tryz.prog 64 #[.bool n, .slice a xs.length c, .slice a' ys.length c'] w fun e w' => ∃ v', e = .returned v' ∧ Fr w' v' k (qv n xs ys) ∧ Below w.heap.size w w' := by
  have hx0 := hx.lim
  have hy0 := hy.lim
  go_enter Tryz.func64, Tryz.ntmps64
  go_wp2_with fail
  refine (rgcd_any _ _ _ _ _ _ _ (hx.below (al1 _)) (hy.below (al1 _)) (by omega) (by omega)).mono ?_
  rintro e u1 ⟨a1, c1, gs, rfl, hv1, ht1, hr1, hb1⟩
  replace hx := (hx.below (al1 _)).below hb1
  replace hy := (hy.below (al1 _)).below hb1
  obtain ⟨B2, hbW⟩ := after1 hb1
  have rg := hr1.rd
  have lg : gs.length ≤ k := by
    refine len_le_of_V ht1 ?_
    have h1 := V_lt hy.lim
    have h2 : V gs ≤ V ys := by rw [hv1]; exact Nat.gcd_le_right _ (by omega)
    have h3 : 4294967296 ^ ys.length ≤ 4294967296 ^ k := Nat.pow_le_pow_right (by decide) ly
    omega
  clear hr1 hb1
  go_wp2_with fail
  refine (rdiv_any _ _ _ _ _ _ _ hx rg (by omega) (by omega)).mono ?_
  rintro e u2 ⟨a2, c2, ps, a3, c3, rs, rfl, hv2, hv3, ht2, ht3, hr2, hr3, hb2⟩
  have rp := hr2.rd
  replace hy := hy.below hb2
  replace rg := rg.below hb2
  replace B2 := B2.below hb2
  replace hbW : Below w.heap.size w u2 := hbW.trans (hb2.mono hbW.size)
  clear hb2 hr2 hr3 hv3 ht3 hx
  go_wp2_with fail
  refine (rdiv_any _ _ _ _ _ _ _ hy rg (by omega) (by omega)).mono ?_
  rintro e u3 ⟨a4, c4, qs, a5, c5, rs', rfl, hv4, hv5, ht4, ht5, hr4, hr5, hb3⟩
  have rq := hr4.rd
  replace rp := rp.below hb3
  replace B2 := B2.below hb3
  replace hbW : Below w.heap.size w u3 := hbW.trans (hb3.mono hbW.size)
  clear hb3 hr4 hr5 hv5 ht5 hy rg
  obtain ⟨q1, q2, q3, q4, q5, q6⟩ := B2.cells
  have hs := B2.lt
  have hF := fmd_reduced (n := n) (xs := xs) (ys := ys) y0 ht2 ht4 (by rw [hv2, hv1]) (by rw [hv4, hv1])
  have lp : ps.length ≤ k := len_le_of_V ht2 (Nat.lt_of_le_of_lt (by rw [hv2]; exact Nat.div_le_self _ _) (V_len_le hx0 lx))
  have lq : qs.length ≤ k := len_le_of_V ht4 (Nat.lt_of_le_of_lt (by rw [hv4]; exact Nat.div_le_self _ _) (V_len_le hy0 ly))
  have fin : ∀ (m : Bool), m = (n && decide (0 < ps.length)) → ∀ (U : World), (∀ a c xs, Rd u3 a c xs → Rd U a c xs) → Fr U (.agg #[.bool m, .slice a2 ps.length c2, .slice a4 qs.length c4]) k (qv n xs ys) := by
    rintro m rfl U hU
    exact ⟨_, ps, qs, ⟨_, _, _, _, rfl, hU _ _ _ rp, hU _ _ _ rq⟩, hF.1, lp, lq, hF.2⟩
  clear hF
  cases n with
  | false =>
    go_wp2
    refine ret3 (v := .agg #[.bool false, .slice a2 ps.length c2, .slice a4 qs.length c4]) B2 rfl (fun U hU => by obtain ⟨r1, r2, r3, _⟩ := hU.cells; simp [results, Tryz.results64, go_sem, r1, r2, r3]) (fun U hU hK => ⟨_, rfl, fin _ rfl U hK, hU _ _ hbW (by omega)⟩)
  | true =>
    go_wp2
    refine ret3 (v := .agg #[.bool (decide (0 < ps.length)), .slice a2 ps.length c2, .slice a4 qs.length c4]) B2 rfl (fun U hU => by obtain ⟨r1, r2, r3, _⟩ := hU.cells; simp [results, Tryz.results64, go_sem, r1, r2, r3]) (fun U hU hK => ⟨_, rfl, fin _ (by simp) U hK, hU _ _ hbW (by omega)⟩)

set_option maxHeartbeats 1000000 in
set_option maxRecDepth 100000 in
theorem ssize_any (z : Int) (w : World) (h1 : -9223372036854775808 ≤ z) (h2 : z < 9223372036854775808) :
    Calls Tryz.prog 65 #[.int .i64 z] w fun e w' => ∃ a c ys, e = .returned (.slice a ys.length c) ∧ V ys = z.natAbs ∧ Tr ys ∧ Rd w' a c ys ∧ Below w.heap.size w w' := by
  by_cases hz : z < 0
  · obtain ⟨m, hm⟩ : ∃ m : Nat, (m : Int) = -(z + 1) := ⟨(-(z + 1)).toNat, by omega⟩
    have e1 : wrap64 (z + 1) = z + 1 := by unfold wrap64; omega
    have e2 : wrap64 (-(z + 1)) = (m : Int) := by unfold wrap64; omega
    have HZ : Hid (z.natAbs = m + 1) := by show _ = _; omega
    have hm2 : m < 18446744073709551616 := by omega
    go_enter Tryz.func65, Tryz.ntmps65
    go_wp2_with fail
    rw [← hm]
    refine (rof_any m _ hm2).mono ?_
    rintro e u1 ⟨a1, c1, zs, rfl, hv1, ht1, hr1, hb1⟩
    have rz := hr1.rd
    go_wp2_with fail
    refine (sone_any _).mono ?_
    rintro e u2 ⟨a2, c2, os, rfl, ho, hto, ro, hb2⟩
    replace rz := rz.below hb2
    have hbW : Below w.heap.size w u2 := hb1.trans (hb2.mono hb1.size)
    have lz := len_two ht1 (by omega)
    have lo := len_two hto (by omega)
    clear hr1 hb1 hb2
    go_wp2_with fail
    refine (radd_any _ _ _ _ _ _ _ rz ro (by omega) (by omega)).mono ?_
    rintro e u3 ⟨a3, c3, ts, rfl, hv3, ht3, hr3, hb3⟩
    go_wp2
    go_ret
    exact ⟨_, _, _, rfl, by rw [hv3, hv1, ho, HZ.out], ht3, hr3.rd, hbW.trans (hb3.mono hbW.size)⟩
  · obtain ⟨m, rfl⟩ : ∃ m : Nat, z = (m : Int) := ⟨z.toNat, by omega⟩
    go_enter Tryz.func65, Tryz.ntmps65
    go_wp2_with fail
    refine (rof_any m _ (by omega)).mono ?_
    rintro e u1 ⟨a1, c1, ys, rfl, hv, ht, hr, hb⟩
    go_wp2
    go_ret
    exact ⟨_, _, _, rfl, by rw [hv]; simp, ht, hr.rd, hb⟩

theorem qv_whole {z : Int} {xs ys : List Nat} (hx : V xs = z.natAbs) (hy : V ys = 1) : qv (decide (z < 0)) xs ys = (z : Rat) := by
  unfold qv; rw [hx, hy, sg_abs]; exact Rat.mkRat_one z

set_option maxHeartbeats 1000000 in
set_option maxRecDepth 100000 in
theorem swhole_any (z : Int) (w : World) (h1 : -9223372036854775808 ≤ z) (h2 : z < 9223372036854775808) :
    Calls Tryz.prog 50 #[.int .i64 z] w fun e w' => ∃ v', e = .returned v' ∧ Fr w' v' 2 (z : Rat) ∧ Below w.heap.size w w' := by
  go_enter Tryz.func50, Tryz.ntmps50
  go_wp2_with fail
  refine (ssize_any z _ h1 h2).mono ?_
  rintro e u1 ⟨a1, c1, xs, rfl, hv1, ht1, rx, hb1⟩
  obtain ⟨B1, hbW⟩ := after1 hb1
  clear hb1
  go_wp2_with fail
  refine (sone_any _).mono ?_
  rintro e u2 ⟨a2, c2, ys, rfl, hv2, ht2, ry, hb2⟩
  replace rx := rx.below hb2
  replace B1 := B1.below hb2
  replace hbW : Below w.heap.size w u2 := hbW.trans (hb2.mono hbW.size)
  clear hb2
  go_wp2_with fail
  refine (slow_any 2 _ _ _ _ _ _ _ _ rx ry (by omega) (len_two ht1 (by omega)) (len_two ht2 (by omega)) (by decide)).mono ?_
  rintro e u3 ⟨v3, rfl, hF, hb3⟩
  rw [qv_whole hv1 hv2] at hF
  replace B1 := B1.below hb3
  replace hbW : Below w.heap.size w u3 := hbW.trans (hb3.mono hbW.size)
  clear hb3
  obtain ⟨q1, q2, q3, q4, q5, q6⟩ := B1.cells
  have hs' := B1.lt
  obtain ⟨n', xs', ys', ⟨b, d, b', d', rfl, hx', hy'⟩, hF⟩ := hF
  go_wp2
  exact ret3 (v := .agg #[.bool n', .slice b xs'.length d, .slice b' ys'.length d']) B1 rfl (fun U hU => by obtain ⟨r1, r2, r3, _⟩ := hU.cells; simp [results, Tryz.results50, go_sem, r1, r2, r3]) (fun U hU hK => ⟨_, rfl, ⟨_, _, _, ⟨_, _, _, _, rfl, hK _ _ _ hx', hK _ _ _ hy'⟩, hF⟩, hU _ _ hbW (by omega)⟩)

set_option maxHeartbeats 1000000 in
set_option maxRecDepth 100000 in
theorem smake_any (z d : Int) (w : World) (h1 : -9223372036854775808 ≤ z) (h2 : z < 9223372036854775808) (h3 : -9223372036854775808 ≤ d) (h4 : d < 9223372036854775808) :
    Calls Tryz.prog 60 #[.int .i64 z, .int .i64 d] w fun e w' => ∃ v', e = .returned v' ∧ Fr w' v' 2 ((z : Rat) / (d : Rat)) ∧ Below w.heap.size w w' := by
  by_cases hd : d = 0
  · subst hd
    go_enter Tryz.func60, Tryz.ntmps60
    go_wp2_with fail
    refine (szero_any _).mono ?_
    rintro e u2 ⟨v2, rfl, hF, hb2⟩
    obtain ⟨B2, hbW⟩ := after1 hb2
    obtain ⟨q1, q2, q3, q4, q5, q6⟩ := B2.cells
    have hs' := B2.lt
    obtain ⟨n', xs', ys', ⟨b, d, b', d', rfl, hx', hy'⟩, hf', lx', ly', he⟩ := hF
    clear hb2
    go_wp2
    refine ret3 (v := .agg #[.bool n', .slice b xs'.length d, .slice b' ys'.length d']) B2 rfl (fun U hU => by obtain ⟨r1, r2, r3, _⟩ := hU.cells; simp [results, Tryz.results60, go_sem, r1, r2, r3]) (fun U hU hK => ⟨_, rfl, ⟨_, _, _, ⟨_, _, _, _, rfl, hK _ _ _ hx', hK _ _ _ hy'⟩, hf', by omega, by omega, by rw [he]; simp [Rat.div_def]⟩, hU _ _ hbW (by omega)⟩)
  · have hd0 : (d == 0) = false := beq_eq_false_iff_ne.2 hd
    go_enter Tryz.func60, Tryz.ntmps60
    go_wp2_with fail
    refine (ssize_any z _ h1 h2).mono ?_
    rintro e u1 ⟨a1, c1, xs, rfl, hv1, ht1, rx, hb1⟩
    obtain ⟨B1, hbW⟩ := after1 hb1
    clear hb1
    go_wp2_with fail
    refine (ssize_any d _ h3 h4).mono ?_
    rintro e u2 ⟨a2, c2, ys, rfl, hv2, ht2, ry, hb2⟩
    replace rx := rx.below hb2
    replace B1 := B1.below hb2
    replace hbW : Below w.heap.size w u2 := hbW.trans (hb2.mono hbW.size)
    clear hb2
    go_wp2_with fail
    refine (slow_any 2 _ _ _ _ _ _ _ _ rx ry (by omega) (len_two ht1 (by omega)) (len_two ht2 (by omega)) (by decide)).mono ?_
    rintro e u3 ⟨v3, rfl, hF, hb3⟩
    rw [qv_make hv1 hv2 hd] at hF
    replace B1 := B1.below hb3
    replace hbW : Below w.heap.size w u3 := hbW.trans (hb3.mono hbW.size)
    clear hb3
    obtain ⟨q1, q2, q3, q4, q5, q6⟩ := B1.cells
    have hs' := B1.lt
    obtain ⟨n', xs', ys', ⟨b, d, b', d', rfl, hx', hy'⟩, hF⟩ := hF
    go_wp2
    exact ret3 (v := .agg #[.bool n', .slice b xs'.length d, .slice b' ys'.length d']) B1 rfl (fun U hU => by obtain ⟨r1, r2, r3, _⟩ := hU.cells; simp [results, Tryz.results60, go_sem, r1, r2, r3]) (fun U hU hK => ⟨_, rfl, ⟨_, _, _, ⟨_, _, _, _, rfl, hK _ _ _ hx', hK _ _ _ hy'⟩, hF⟩, hU _ _ hbW (by omega)⟩)

end Go.Proofs.YtchdoakoelfenaaGreat
