/-
  nat.Sub: the walk.
-/
import Derived.Test.YtefdkajjdaplbabDoorAdd
namespace Go.Proofs.YtefdkajjdaplbabDoor
open Go.RowKit
set_option linter.unusedSimpArgs false
set_option linter.unusedVariables false

theorem u64_eq {a b : Int} (h : a = b) : Value.int .u64 a = Value.int .u64 b := by rw [h]

theorem wrap_u64_mod (n : Int) : IntKind.u64.wrap n = n % 18446744073709551616 := by simp [IntKind.wrap, IntKind.bits, IntKind.signed]

/-- One round of a subtraction. -/
theorem sub_step {zs L S : List Nat} {k cy x y t : Nat} (hz : zs.length = k) (he : V zs + V (S.take k) = V (L.take k) + 4294967296 ^ k * cy) (hx : L.getD k 0 = x) (hy : S.getD k 0 = y) (ht : t = x + 4294967296 - cy - y) (hc : cy ≤ 1) (hb : y < 4294967296) (hxb : x < 4294967296) :
    V (zs ++ [t % 4294967296]) + V (S.take (k + 1)) = V (L.take (k + 1)) + 4294967296 ^ (k + 1) * (1 - t / 4294967296) := by
  rw [V_snoc, hz, V_take_succ, V_take_succ, hx, hy, Nat.pow_succ]
  have e : t % 4294967296 + y + cy = x + 4294967296 * (1 - t / 4294967296) := by omega
  · generalize t % 4294967296 = r at e ⊢
    generalize 1 - t / 4294967296 = d at e ⊢
    generalize 4294967296 ^ k = p at he ⊢
    generalize V zs = o at he ⊢
    generalize V (L.take k) = A at he ⊢
    generalize V (S.take k) = C at he ⊢
    grind

theorem V_take_all {S : List Nat} {n : Nat} (h : V S < 4294967296 ^ n) : V (S.take n) = V S := by
  have e := V_take_drop S n
  rcases Nat.eq_zero_or_pos (V (S.drop n)) with h0 | h0
  · rw [h0] at e; omega
  · have : 4294967296 ^ n * 1 ≤ 4294967296 ^ n * V (S.drop n) := Nat.mul_le_mul_left _ h0
    omega

/-- The end of a subtraction: nothing is borrowed. -/
theorem sub_end {zs L S : List Nat} {cy : Nat} (lz : Lim zs) (hz : zs.length = L.length) (he : V zs + V (S.take L.length) = V (L.take L.length) + 4294967296 ^ L.length * cy) (lL : Lim L) (hv : V S < V L) : V zs = V L - V S := by
  have hL := V_lt lL
  rw [List.take_length, V_take_all (by omega)] at he
  have hzs := V_lt lz
  rw [hz] at hzs
  rcases Nat.eq_zero_or_pos cy with h0 | h0
  · rw [h0] at he; omega
  · have : 4294967296 ^ L.length * 1 ≤ 4294967296 ^ L.length * cy := Nat.mul_le_mul_left _ h0
    omega

theorem cmpN_le {x y : Nat} (h : x ≤ y) : cmpN x y ≤ 0 := by unfold cmpN; split <;> (try split) <;> omega
theorem cmpN_gt {x y : Nat} (h : y < x) : cmpN x y = 1 := by unfold cmpN; rw [if_neg (by omega), if_pos h]

set_option maxHeartbeats 1600000 in
theorem sub_any (a : Option Addr) (cap : Nat) (xs : List Nat) (b : Option Addr) (cbp : Nat) (ys : List Nat) (w : World) (ha : Rd w a cap xs) (hb : Rd w b cbp ys) (hla : xs.length ≤ 500000000) (hlb : ys.length ≤ 500000000) :
    Calls Tryd.prog 35 #[.slice a xs.length cap, .slice b ys.length cbp] w fun e w' =>
      ∃ a' cap' zs, e = .returned (.slice a' zs.length cap') ∧ V zs = V xs - V ys ∧ Tr zs ∧ Res 33 w.heap.size w' a' cap' zs ∧ Below w.heap.size w w' := by
  obtain ⟨i0, hi, hz0, hz1, hz2⟩ := info_parts info_limb
  by_cases hle : V xs ≤ V ys
  · have hc := cmpN_le hle
    go_enter Tryd.func35, Tryd.ntmps35
    go_wp2_with fail
    refine (cmp_any _ _ _ _ _ _ _ ha hb).mono ?_
    rintro e w1 ⟨rfl, hb1⟩
    generalize cmpN (V xs) (V ys) = q at hc ⊢
    go_wp2
    go_ret
    refine ⟨some ⟨w1.heap.size, 0, none⟩, 0, [], rfl, ?_, tr_nil, ?_, hb1.alloc hb1.size _⟩
    · show 0 = _; omega
    · exact ⟨Lim.nil, ownsRow_mono (World.ownsRow_made w1 #[] 0 (Nat.le_refl _) (Nat.zero_le _) rfl) hb1.size⟩
  · have hc := cmpN_gt (Nat.lt_of_not_le hle)
    have HC : Hid (cmpN (V xs) (V ys) = 1) := hc
    clear hc
    go_enter Tryd.func35, Tryd.ntmps35
    go_wp2_with fail
    refine (cmp_any _ _ _ _ _ _ _ ha hb).mono ?_
    rintro e w0 ⟨rfl, hb0⟩
    rw [HC.out]
    have ha0 := ha.below hb0
    have hb00 := hb.below hb0
    clear ha hb
    have Xr := ha0.strip
    have Yr := hb00.strip
    have lx := strip_length_le xs
    have ly := strip_length_le ys
    go_wp2_with fail
    refine (sig_any a cap xs _ ha0).mono ?_
    rintro e w' ⟨rfl, rfl⟩
    go_wp2_with fail
    refine (sig_any b cbp ys _ hb00).mono ?_
    rintro e w' ⟨rfl, rfl⟩
    clear ha0 hb00
    have HV : Hid (V (strip ys) < V (strip xs) ∧ V (strip xs) = V xs ∧ V (strip ys) = V ys) := by show _ ∧ _; rw [V_strip, V_strip]; exact ⟨by omega, rfl, rfl⟩
    generalize strip xs = X at Xr lx HV ⊢
    generalize strip ys = Y at Yr ly HV ⊢
    have hL2 := Xr.le
    have hL3 := Xr.cap
    unfold maxLen at hL3
    have lL := Xr.lim
    have lS := Yr.lim
    have fL := Xr.fm
    have fS := Yr.fm
    clear Xr Yr
    have hs0 := hb0.size
    go_wp2_with (at_make; refine wpList_make_own _ rfl _ _ 27 rfl w0.heap.size 33 i0 (.int .u32 0) 1 Tryd.underlying27 hi hz0 hz1 _ _ _ X.length rfl rfl (by omega) (by rw [hz2]; omega) (by unfold maxLen; omega) (Nat.le_refl _) ?_)
    intro u0 hown0 hgrow0
    have hbu : Below w0.heap.size w0 u0 := (Below.refl _ _).grown hgrow0 (Nat.le_refl _) (fun k h => by cases h)
    go_wp2
    go_loopw [5, 6, 24] (fun out c i wr => ∃ (k : Nat) (zs : List Nat) (cy : Nat), k ≤ X.length ∧ i = .int .i64 k ∧ c = .int .u64 cy ∧ cy ≤ 1 ∧ zs.length = k ∧ Lim zs ∧ V zs + V (Y.take k) = V (X.take k) + 4294967296 ^ k * cy ∧ wr.ownsRow w0.heap.size 33 1 out k (zs.map U) ∧ Below w0.heap.size w0 wr) (fun _ _ i _ => X.length - (intOf i).toNat)
    case atStart => exact ⟨0, [], 0, Nat.zero_le _, rfl, rfl, Nat.zero_le _, rfl, Lim.nil, by simp [V], hown0, hbu⟩
    case round =>
      obtain ⟨k, zs, cy, hk, rfl, rfl, hcy, hzl, lz, heq, hown, hnx⟩ := hrel
      have HE : Hid (V zs + V (Y.take k) = V (X.take k) + 4294967296 ^ k * cy) := heq
      have HZ : Hid (zs.length = k) := hzl
      have hsz := hnx.size
      clear heq hzl
      by_cases hkn : k < X.length
      · obtain ⟨bl, ol, rfl, _, hcl⟩ := fL.at hnx k hkn
        obtain ⟨x, hx⟩ : ∃ x, X.getD k 0 = x := ⟨_, rfl⟩
        obtain ⟨y, hy⟩ : ∃ y, Y.getD k 0 = y := ⟨_, rfl⟩
        have bx : x < 4294967296 := by rw [← hx]; exact lL.getD k
        have byy : y < 4294967296 := by rw [← hy]; exact lS.getD k
        rw [hx] at hcl
        have HX : Hid (X.getD k 0 = x) := hx
        have HY : Hid (Y.getD k 0 = y) := hy
        clear hx hy
        by_cases hkm : k < Y.length
        · obtain ⟨bs, os, rfl, _, hcs⟩ := fS.at hnx k hkm
          rw [HY.out] at hcs
          go_wp2_with (at_builtin; refine wpList_append_one rfl _ _ 27 rfl w0.heap.size 33 i0 Tryd.underlying27 hi hz0 hz1 hz2 _ k zs rfl (hown.alloc _) wr.heap.size ((x + 4294967296 - cy - y) % 4294967296) rfl (cell_new1 _ _ _ _ (by simp only [wrap_u64_mod]; omega)) (by omega) (by simp; omega) ?_)
          intro v' w1 hown1 hgrow1
          have hb1 : Below w0.heap.size w0 w1 := (hnx.alloc hsz _).grown hgrow1 (by simp; omega) (fun k hk => (hown.lt k hk).1)
          clear hown
          go_wp2
          go_roundw
          case rel =>
            exact ⟨k + 1, zs ++ [(x + 4294967296 - cy - y) % 4294967296], 1 - (x + 4294967296 - cy - y) / 4294967296, by omega, by go_num, u64_eq (by simp only [wrap_u64_mod]; omega), by omega, by simp [HZ.out], lz.snoc (by omega), sub_step HZ.out HE.out HX.out HY.out (by omega) hcy byy bx, own_snoc hown1, hb1⟩
          case measure => simp [intOf]; omega
        · have y0 : y = 0 := by rw [← HY.out]; exact getD_past _ _ (by omega)
          subst y0
          go_wp2_with (at_builtin; refine wpList_append_one rfl _ _ 27 rfl w0.heap.size 33 i0 Tryd.underlying27 hi hz0 hz1 hz2 _ k zs rfl (hown.alloc _) wr.heap.size ((x + 4294967296 - cy) % 4294967296) rfl (cell_new1 _ _ _ _ (by simp only [wrap_u64_mod]; omega)) (by omega) (by simp; omega) ?_)
          intro v' w1 hown1 hgrow1
          have hb1 : Below w0.heap.size w0 w1 := (hnx.alloc hsz _).grown hgrow1 (by simp; omega) (fun k hk => (hown.lt k hk).1)
          clear hown
          go_wp2
          go_roundw
          case rel =>
            exact ⟨k + 1, zs ++ [(x + 4294967296 - cy) % 4294967296], 1 - (x + 4294967296 - cy) / 4294967296, by omega, by go_num, u64_eq (by simp only [wrap_u64_mod]; omega), by omega, by simp [HZ.out], lz.snoc (by omega), sub_step HZ.out HE.out HX.out HY.out (by omega) hcy byy bx, own_snoc hown1, hb1⟩
          case measure => simp [intOf]; omega
      · obtain rfl : k = X.length := by omega
        obtain ⟨a', cap', rfl, hres⟩ := Res.of lz hown
        clear hown
        go_wp2_with fail
        refine (trim_any _ _ _ _ hres.rd (by rw [HZ.out]; omega)).mono ?_
        rintro e w2 ⟨a2, c2, rfl, hr2, hb2⟩
        go_wp2
        go_ret
        refine ⟨a2, c2, _, rfl, ?_, tr_strip _, hr2.mono (Nat.le_trans hs0 hsz), hb0.trans ((hnx.trans (hb2.mono hsz)).mono hs0)⟩
        rw [V_strip, ← HV.out.2.1, ← HV.out.2.2]
        exact sub_end lz HZ.out HE.out lL HV.out.1

end Go.Proofs.YtefdkajjdaplbabDoor
