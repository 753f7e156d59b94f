/-
  nat.addMultiple: the walk.
-/
import Derived.Test.YtefdkajjdaplbabDoorBlk
import Derived.Test.YtefdkajjdaplbabDoorSum
namespace Go.Proofs.YtefdkajjdaplbabDoor
open Go.RowKit
set_option linter.unusedSimpArgs false
set_option linter.unusedVariables false

theorem ret_u32 {a b : Int} (h : a = b) : Ending.returned (.int .u32 a) = .returned (.int .u32 b) := by rw [h]

set_option maxHeartbeats 1000000 in
theorem addm_any (g off co : Nat) (zs : List Nat) (b : Option Addr) (cb : Nat) (ys : List Nat) (f : Nat) (w : World) (hblk : Blk 33 w g zs) (lz : Lim zs) (hb : Rd w b cb ys)
    (hsep : ∀ k o, b = some ⟨k, o, none⟩ → ys ≠ [] → k ≠ g) (hf : f < 4294967296) (hlen : off + ys.length ≤ zs.length) (hbig : zs.length ≤ 4000000000) :
    Calls Tryd.prog 45 #[.slice (some ⟨g, off, none⟩) ys.length co, .slice b ys.length cb, .int .u32 (f : Int)] w fun e w' =>
      ∃ (cs : List Nat) (c : Nat), e = .returned (.int .u32 (c : Int)) ∧ c < 4294967296 ∧ cs.length = zs.length ∧ Lim cs ∧ (∀ i, i < off ∨ off + ys.length ≤ i → cs.getD i 0 = zs.getD i 0) ∧
        Sv (fun i => cs.getD (off + i) 0) ys.length + 4294967296 ^ ys.length * c = Sv (fun i => zs.getD (off + i) 0) ys.length + V ys * f ∧ Blk 33 w' g cs ∧ w.grownBy w' (some g) := by
  have fb := hb.fm
  have lb := hb.lim
  clear hb
  go_enter Tryd.func45, Tryd.ntmps45
  go_wp2
  go_loopw [7, 13] (fun c i wr => ∃ (k : Nat) (cs : List Nat) (cy : Nat), k ≤ ys.length ∧ i = .int .i64 k ∧ c = .int .u64 cy ∧ cy < 4294967296 ∧ cs.length = zs.length ∧ Lim cs ∧ (∀ i, i < off ∨ off + k ≤ i → cs.getD i 0 = zs.getD i 0) ∧
      Sv (fun i => cs.getD (off + i) 0) k + 4294967296 ^ k * cy = Sv (fun i => zs.getD (off + i) 0) k + V (ys.take k) * f ∧ Blk 33 wr g cs ∧ w.grownBy wr (some g)) (fun _ i _ => ys.length - (intOf i).toNat)
  case atStart => exact ⟨0, zs, 0, Nat.zero_le _, rfl, rfl, by decide, rfl, lz, fun _ _ => rfl, by simp [V, Sv], hblk, World.grownBy.refl _ _⟩
  case round =>
    obtain ⟨k, cs, cy, hk, rfl, rfl, hcy, hcl, lc, hsame, heq, hB, hg⟩ := hrel
    have HE : Hid (Sv (fun i => cs.getD (off + i) 0) k + 4294967296 ^ k * cy = Sv (fun i => zs.getD (off + i) 0) k + V (ys.take k) * f) := heq
    have HC : Hid (cs.length = zs.length) := hcl
    have HS : Hid (∀ i, i < off ∨ off + k ≤ i → cs.getD i 0 = zs.getD i 0) := hsame
    clear heq hsame
    by_cases hkn : k < ys.length
    · obtain ⟨b1, o1, rfl, hne, c1⟩ := fb.other hg hsep k hkn
      have c2 := hB.cell (off + k) (by omega)
      have c3 := hB.frozen (off + k)
      obtain ⟨y, hy⟩ : ∃ y, ys.getD k 0 = y := ⟨_, rfl⟩
      obtain ⟨o, ho⟩ : ∃ o, cs.getD (off + k) 0 = o := ⟨_, rfl⟩
      rw [hy] at c1
      rw [ho] at c2
      have by1 : y < 4294967296 := by rw [← hy]; exact lb.getD k
      have bo1 : o < 4294967296 := by rw [← ho]; exact lc.getD _
      obtain ⟨p, hp⟩ : ∃ p, y * f = p := ⟨_, rfl⟩
      have bp : p ≤ 18446744065119617025 := by rw [← hp]; exact mul_lt_64 by1 hf
      have hpi : (y : Int) * (f : Int) = (p : Int) := by rw [← hp]; simp
      have HY : Hid (ys.getD k 0 = y) := hy
      have HO : Hid (zs.getD (off + k) 0 = o) := by show _ = _; rw [← HS.out (off + k) (by omega)]; exact ho
      have HP : Hid (y * f = p) := hp
      clear hy ho hp hcl
      go_wp2
      go_roundw
      case rel =>
        refine ⟨k + 1, cs.set (off + k) ((p + o + cy) % 4294967296), (p + o + cy) / 4294967296, by omega, by go_num, by go_num, by omega, by rw [List.length_set]; exact HC.out, lc.set _ (by omega), fun i hi => ?_, addm_step HY.out HP.out HO.out rfl (by rw [HC.out]; omega) HE.out, hB.set _ _ _ (by rw [HC.out]; omega) (by omega), grownBy_setCell hg _ _⟩
        rw [getD_set_ne _ _ _ _ (by omega)]; exact HS.out i (by omega)
      case measure => simp [intOf]; omega
    · obtain rfl : k = ys.length := by omega
      go_wp2
      go_ret
      refine ⟨cs, cy, ret_u32 (by omega), hcy, HC.out, lc, fun i hi => HS.out i hi, ?_, hB, hg⟩
      have := HE.out
      rw [List.take_length] at this; exact this

end Go.Proofs.YtefdkajjdaplbabDoor
