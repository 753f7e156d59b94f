/-
  nat.Add: the walk.
-/
import Derived.Test.YtefdkajjdaplbabDoorRCmp
namespace Go.Proofs.YtefdkajjdaplbabDoor
open Go.RowKit
set_option linter.unusedSimpArgs false
set_option linter.unusedVariables false

theorem cell_new1 (w : World) (e : TypeId) (q : Int) (z : Nat) (h : q = (z : Int)) : (w.alloc (.cells #[.int .u32 q] e)).cell? ⟨w.heap.size, 0, none⟩ = some (.int .u32 (z : Int)) := by
  subst h
  rw [cell_of_row _ w.heap.size 0 #[Value.int .u32 (z : Int)] e (0, 0) (heap_alloc_new w _)]
  rfl

/-- One round of an addition. -/
theorem add_step {zs L S : List Nat} {k cy x y s : Nat} (hz : zs.length = k) (he : V zs + 4294967296 ^ k * cy = V (L.take k) + V (S.take k)) (hx : L.getD k 0 = x) (hy : S.getD k 0 = y) (hs : s = x + cy + y) :
    V (zs ++ [s % 4294967296]) + 4294967296 ^ (k + 1) * (s / 4294967296) = V (L.take (k + 1)) + V (S.take (k + 1)) := by
  rw [V_snoc, hz, V_take_succ, V_take_succ, hx, hy, Nat.pow_succ]
  have hd := Nat.mod_add_div s 4294967296
  generalize s % 4294967296 = r at hd ⊢
  generalize s / 4294967296 = d at hd ⊢
  subst hs
  generalize 4294967296 ^ k = p at he ⊢
  generalize V zs = o at he ⊢
  generalize V (L.take k) = A at he ⊢
  generalize V (S.take k) = C at he ⊢
  grind

set_option maxHeartbeats 1600000 in
theorem add_any (a : Option Addr) (cap : Nat) (xs : List Nat) (b : Option Addr) (cbp : Nat) (ys : List Nat) (w : World) (ha : Rd w a cap xs) (hb : Rd w b cbp ys) (hla : xs.length ≤ 500000000) (hlb : ys.length ≤ 500000000) :
    Calls Tryd.prog 34 #[.slice a xs.length cap, .slice b ys.length cbp] w fun e w' =>
      ∃ a' cap' zs, e = .returned (.slice a' zs.length cap') ∧ V zs = V xs + V ys ∧ Tr zs ∧ Res 33 w.heap.size w' a' cap' zs ∧ Below w.heap.size w w' := by
  obtain ⟨i0, hi, hz0, hz1, hz2⟩ := info_parts info_limb
  have Xr := ha.strip
  have Yr := hb.strip
  have lx := strip_length_le xs
  have ly := strip_length_le ys
  go_enter Tryd.func34, Tryd.ntmps34
  go_wp2_with fail
  refine (sig_any a cap xs _ ha).mono ?_
  rintro e w' ⟨rfl, rfl⟩
  go_wp2_with fail
  refine (sig_any b cbp ys _ hb).mono ?_
  rintro e w' ⟨rfl, rfl⟩
  clear ha hb
  generalize hX : strip xs = X at Xr lx ⊢
  generalize hY : strip ys = Y at Yr ly ⊢
  by_cases hlt : X.length < Y.length
  · have hL2 := Yr.le
    have hL3 := Yr.cap
    unfold maxLen at hL3
    have lL := Yr.lim
    have lS := Xr.lim
    have fL := Yr.fm
    have fS := Xr.fm
    have HV : Hid (V Y + V X = V xs + V ys) := by show _ = _; rw [← hY, ← hX, V_strip, V_strip]; omega
    clear Yr Xr
    go_wp2_with (at_make; refine wpList_make_own _ rfl _ _ 27 rfl w.heap.size 33 i0 (.int .u32 0) 1 Tryd.underlying27 hi hz0 hz1 _ _ _ (Y.length + 1) rfl rfl (by omega) (by rw [hz2]; omega) (by unfold maxLen; omega) (Nat.le_refl _) ?_)
    intro u0 hown0 hgrow0
    have hb0 : Below w.heap.size w u0 := (Below.refl _ _).grown hgrow0 (Nat.le_refl _) (fun k h => by cases h)
    go_wp2
    go_loopw [5, 6, 27] (fun out c i wr => ∃ (k : Nat) (zs : List Nat) (cy : Nat), k ≤ Y.length ∧ i = .int .i64 k ∧ c = .int .u64 cy ∧ cy ≤ 1 ∧ zs.length = k ∧ Lim zs ∧ V zs + 4294967296 ^ k * cy = V (Y.take k) + V (X.take k) ∧ wr.ownsRow w.heap.size 33 1 out k (zs.map U) ∧ Below w.heap.size w wr) (fun _ _ i _ => Y.length - (intOf i).toNat)
    case atStart => exact ⟨0, [], 0, Nat.zero_le _, rfl, rfl, Nat.zero_le _, rfl, Lim.nil, by simp [V], hown0, hb0⟩
    case round =>
      obtain ⟨k, zs, cy, hk, rfl, rfl, hcy, hzl, lz, heq, hown, hnx⟩ := hrel
      have HE : Hid (V zs + 4294967296 ^ k * cy = V (Y.take k) + V (X.take k)) := heq
      have HZ : Hid (zs.length = k) := hzl
      have hsz := hnx.size
      clear heq hzl
      by_cases hkn : k < Y.length
      · obtain ⟨bl, ol, rfl, _, hcl⟩ := fL.at hnx k hkn
        obtain ⟨x, hx⟩ : ∃ x, Y.getD k 0 = x := ⟨_, rfl⟩
        obtain ⟨y, hy⟩ : ∃ y, X.getD k 0 = y := ⟨_, rfl⟩
        have bx : x < 4294967296 := by rw [← hx]; exact lL.getD k
        have byy : y < 4294967296 := by rw [← hy]; exact lS.getD k
        rw [hx] at hcl
        have HX : Hid (Y.getD k 0 = x) := hx
        have HY : Hid (X.getD k 0 = y) := hy
        clear hx hy
        by_cases hkm : k < X.length
        · obtain ⟨bs, os, rfl, _, hcs⟩ := fS.at hnx k hkm
          rw [HY.out] at hcs
          go_wp2_with (at_builtin; refine wpList_append_one rfl _ _ 27 rfl w.heap.size 33 i0 Tryd.underlying27 hi hz0 hz1 hz2 _ k zs rfl (hown.alloc _) wr.heap.size ((x + cy + y) % 4294967296) rfl (cell_new1 _ _ _ _ (by omega)) (by omega) (by simp; omega) ?_)
          intro v' w1 hown1 hgrow1
          have hb1 : Below w.heap.size w w1 := (hnx.alloc hsz _).grown hgrow1 (by simp; omega) (fun k hk => (hown.lt k hk).1)
          clear hcl hcs hown
          go_wp2
          go_roundw
          case rel =>
            exact ⟨k + 1, zs ++ [(x + cy + y) % 4294967296], (x + cy + y) / 4294967296, by omega, by go_num, by go_num, by omega, by simp [HZ.out], lz.snoc (by omega), add_step HZ.out HE.out HX.out HY.out rfl, own_snoc hown1, hb1⟩
          case measure => simp [intOf]; omega
        · have y0 : y = 0 := by rw [← HY.out]; exact getD_past _ _ (by omega)
          subst y0
          go_wp2_with (at_builtin; refine wpList_append_one rfl _ _ 27 rfl w.heap.size 33 i0 Tryd.underlying27 hi hz0 hz1 hz2 _ k zs rfl (hown.alloc _) wr.heap.size ((x + cy) % 4294967296) rfl (cell_new1 _ _ _ _ (by omega)) (by omega) (by simp; omega) ?_)
          intro v' w1 hown1 hgrow1
          have hb1 : Below w.heap.size w w1 := (hnx.alloc hsz _).grown hgrow1 (by simp; omega) (fun k hk => (hown.lt k hk).1)
          clear hcl hown
          go_wp2
          go_roundw
          case rel =>
            exact ⟨k + 1, zs ++ [(x + cy) % 4294967296], (x + cy) / 4294967296, by omega, by go_num, by go_num, by omega, by simp [HZ.out], lz.snoc (by omega), add_step HZ.out HE.out HX.out HY.out (by omega), own_snoc hown1, hb1⟩
          case measure => simp [intOf]; omega
      · obtain rfl : k = Y.length := by omega
        go_wp2_with (at_builtin; refine wpList_append_one rfl _ _ 27 rfl w.heap.size 33 i0 Tryd.underlying27 hi hz0 hz1 hz2 _ _ zs rfl (hown.alloc _) wr.heap.size cy rfl (cell_new1 _ _ _ _ (by omega)) (by omega) (by simp; omega) ?_)
        intro v' w1 hown1 hgrow1
        have hb1 : Below w.heap.size w w1 := (hnx.alloc hsz _).grown hgrow1 (by simp; omega) (fun k hk => (hown.lt k hk).1)
        have o1 := own_snoc hown1
        have lts := lz.snoc (show cy < 4294967296 by omega)
        obtain ⟨ts, hts⟩ : ∃ ts, zs ++ [cy] = ts := ⟨_, rfl⟩
        have htl : ts.length ≤ 1000000000 := by rw [← hts]; simp [HZ.out]; omega
        rw [hts] at o1 lts
        have HT : Hid (zs ++ [cy] = ts) := hts
        obtain ⟨a', cap', rfl, hres⟩ := Res.of lts o1
        clear hown1 hown hts o1
        go_wp2_with fail
        refine (trim_any _ _ _ _ hres.rd htl).mono ?_
        rintro e w2 ⟨a2, c2, rfl, hr2, hb2⟩
        go_wp2
        go_ret
        refine ⟨a2, c2, _, rfl, ?_, tr_strip _, hr2.mono hb1.size, hb1.trans (hb2.mono hb1.size)⟩
        have h1 := HE.out
        rw [List.take_length, List.take_of_length_le (by omega)] at h1
        rw [V_strip, ← HT.out, V_snoc, HZ.out, h1, HV.out]
  · have hL2 := Xr.le
    have hL3 := Xr.cap
    unfold maxLen at hL3
    have lL := Xr.lim
    have lS := Yr.lim
    have fL := Xr.fm
    have fS := Yr.fm
    have HV : Hid (V X + V Y = V xs + V ys) := by show _ = _; rw [← hX, ← hY, V_strip, V_strip]
    clear Xr Yr
    go_wp2_with (at_make; refine wpList_make_own _ rfl _ _ 27 rfl w.heap.size 33 i0 (.int .u32 0) 1 Tryd.underlying27 hi hz0 hz1 _ _ _ (X.length + 1) rfl rfl (by omega) (by rw [hz2]; omega) (by unfold maxLen; omega) (Nat.le_refl _) ?_)
    intro u0 hown0 hgrow0
    have hb0 : Below w.heap.size w u0 := (Below.refl _ _).grown hgrow0 (Nat.le_refl _) (fun k h => by cases h)
    go_wp2
    go_loopw [5, 6, 27] (fun out c i wr => ∃ (k : Nat) (zs : List Nat) (cy : Nat), k ≤ X.length ∧ i = .int .i64 k ∧ c = .int .u64 cy ∧ cy ≤ 1 ∧ zs.length = k ∧ Lim zs ∧ V zs + 4294967296 ^ k * cy = V (X.take k) + V (Y.take k) ∧ wr.ownsRow w.heap.size 33 1 out k (zs.map U) ∧ Below w.heap.size w wr) (fun _ _ i _ => X.length - (intOf i).toNat)
    case atStart => exact ⟨0, [], 0, Nat.zero_le _, rfl, rfl, Nat.zero_le _, rfl, Lim.nil, by simp [V], hown0, hb0⟩
    case round =>
      obtain ⟨k, zs, cy, hk, rfl, rfl, hcy, hzl, lz, heq, hown, hnx⟩ := hrel
      have HE : Hid (V zs + 4294967296 ^ k * cy = V (X.take k) + V (Y.take k)) := heq
      have HZ : Hid (zs.length = k) := hzl
      have hsz := hnx.size
      clear heq hzl
      by_cases hkn : k < X.length
      · obtain ⟨bl, ol, rfl, _, hcl⟩ := fL.at hnx k hkn
        obtain ⟨x, hx⟩ : ∃ x, X.getD k 0 = x := ⟨_, rfl⟩
        obtain ⟨y, hy⟩ : ∃ y, Y.getD k 0 = y := ⟨_, rfl⟩
        have bx : x < 4294967296 := by rw [← hx]; exact lL.getD k
        have byy : y < 4294967296 := by rw [← hy]; exact lS.getD k
        rw [hx] at hcl
        have HX : Hid (X.getD k 0 = x) := hx
        have HY : Hid (Y.getD k 0 = y) := hy
        clear hx hy
        by_cases hkm : k < Y.length
        · obtain ⟨bs, os, rfl, _, hcs⟩ := fS.at hnx k hkm
          rw [HY.out] at hcs
          go_wp2_with (at_builtin; refine wpList_append_one rfl _ _ 27 rfl w.heap.size 33 i0 Tryd.underlying27 hi hz0 hz1 hz2 _ k zs rfl (hown.alloc _) wr.heap.size ((x + cy + y) % 4294967296) rfl (cell_new1 _ _ _ _ (by omega)) (by omega) (by simp; omega) ?_)
          intro v' w1 hown1 hgrow1
          have hb1 : Below w.heap.size w w1 := (hnx.alloc hsz _).grown hgrow1 (by simp; omega) (fun k hk => (hown.lt k hk).1)
          clear hcl hcs hown
          go_wp2
          go_roundw
          case rel =>
            exact ⟨k + 1, zs ++ [(x + cy + y) % 4294967296], (x + cy + y) / 4294967296, by omega, by go_num, by go_num, by omega, by simp [HZ.out], lz.snoc (by omega), add_step HZ.out HE.out HX.out HY.out rfl, own_snoc hown1, hb1⟩
          case measure => simp [intOf]; omega
        · have y0 : y = 0 := by rw [← HY.out]; exact getD_past _ _ (by omega)
          subst y0
          go_wp2_with (at_builtin; refine wpList_append_one rfl _ _ 27 rfl w.heap.size 33 i0 Tryd.underlying27 hi hz0 hz1 hz2 _ k zs rfl (hown.alloc _) wr.heap.size ((x + cy) % 4294967296) rfl (cell_new1 _ _ _ _ (by omega)) (by omega) (by simp; omega) ?_)
          intro v' w1 hown1 hgrow1
          have hb1 : Below w.heap.size w w1 := (hnx.alloc hsz _).grown hgrow1 (by simp; omega) (fun k hk => (hown.lt k hk).1)
          clear hcl hown
          go_wp2
          go_roundw
          case rel =>
            exact ⟨k + 1, zs ++ [(x + cy) % 4294967296], (x + cy) / 4294967296, by omega, by go_num, by go_num, by omega, by simp [HZ.out], lz.snoc (by omega), add_step HZ.out HE.out HX.out HY.out (by omega), own_snoc hown1, hb1⟩
          case measure => simp [intOf]; omega
      · obtain rfl : k = X.length := by omega
        go_wp2_with (at_builtin; refine wpList_append_one rfl _ _ 27 rfl w.heap.size 33 i0 Tryd.underlying27 hi hz0 hz1 hz2 _ _ zs rfl (hown.alloc _) wr.heap.size cy rfl (cell_new1 _ _ _ _ (by omega)) (by omega) (by simp; omega) ?_)
        intro v' w1 hown1 hgrow1
        have hb1 : Below w.heap.size w w1 := (hnx.alloc hsz _).grown hgrow1 (by simp; omega) (fun k hk => (hown.lt k hk).1)
        have o1 := own_snoc hown1
        have lts := lz.snoc (show cy < 4294967296 by omega)
        obtain ⟨ts, hts⟩ : ∃ ts, zs ++ [cy] = ts := ⟨_, rfl⟩
        have htl : ts.length ≤ 1000000000 := by rw [← hts]; simp [HZ.out]; omega
        rw [hts] at o1 lts
        have HT : Hid (zs ++ [cy] = ts) := hts
        obtain ⟨a', cap', rfl, hres⟩ := Res.of lts o1
        clear hown1 hown hts o1
        go_wp2_with fail
        refine (trim_any _ _ _ _ hres.rd htl).mono ?_
        rintro e w2 ⟨a2, c2, rfl, hr2, hb2⟩
        go_wp2
        go_ret
        refine ⟨a2, c2, _, rfl, ?_, tr_strip _, hr2.mono hb1.size, hb1.trans (hb2.mono hb1.size)⟩
        have h1 := HE.out
        rw [List.take_length, List.take_of_length_le (by omega)] at h1
        rw [V_strip, ← HT.out, V_snoc, HZ.out, h1, HV.out]

end Go.Proofs.YtefdkajjdaplbabDoor
