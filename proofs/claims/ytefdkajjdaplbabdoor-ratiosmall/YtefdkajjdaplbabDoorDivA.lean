/-
  nat.divideByLimb, nat.subMultiple: the walks.
-/
import Derived.Test.YtefdkajjdaplbabDoorAddM
import Derived.Laws.BitsAllLaws
import Derived.Outline
namespace Go.Proofs.YtefdkajjdaplbabDoor
open Go.RowKit
set_option linter.unusedSimpArgs false
set_option linter.unusedVariables false

/-- A number whose low 32 bits are 0, or'ed with a limb. -/
theorem or_low (l x : Nat) (hl : l < 4294967296) (hx : x < 4294967296) : bits BinOp.or IntKind.u64 ((l : Int) * 4294967296) (x : Int) = (l : Int) * 4294967296 + (x : Int) := by
  have h := u64_or_nat (l * 4294967296) x (by omega) (by omega)
  have e : l * 4294967296 ||| x = l * 4294967296 + x := by
    have := Nat.shiftLeft_add_eq_or_of_lt (show x < 2 ^ 32 by omega) l
    rw [Nat.shiftLeft_eq] at this
    exact this.symm
  rw [e] at h
  have c1 : ((l * 4294967296 : Nat) : Int) = (l : Int) * 4294967296 := by simp
  rw [c1] at h
  rw [h]; simp

theorem wrap_u32_mod (n : Int) : IntKind.u32.wrap n = n % 4294967296 := by simp [IntKind.wrap, IntKind.bits, IntKind.signed]

theorem V_drop (xs : List Nat) (j : Nat) : V (xs.drop j) = xs.getD j 0 + 4294967296 * V (xs.drop (j + 1)) := by
  rw [V_head_tail (xs.drop j), List.tail_drop]
  simp [List.getD]

theorem divl_step {C Z d r x p qq rr : Nat} (he : C * d + r = Z) (hq : d * qq + rr = p) (hp : r * 4294967296 + x = p) : (qq + 4294967296 * C) * d + rr = x + 4294967296 * Z := by
  subst he
  subst hp
  grind

set_option maxHeartbeats 1000000 in
theorem divl_any (g co : Nat) (zs : List Nat) (d : Nat) (w : World) (hblk : Blk 33 w g zs) (lz : Lim zs) (hd0 : 1 ≤ d) (hd : d < 4294967296) (hbig : zs.length ≤ 4000000000) :
    Calls Tryd.prog 43 #[.slice (some ⟨g, 0, none⟩) zs.length co, .int .u32 (d : Int)] w fun e w' =>
      ∃ (cs : List Nat) (r : Nat), e = .returned (.int .u32 (r : Int)) ∧ r < d ∧ cs.length = zs.length ∧ Lim cs ∧ V cs * d + r = V zs ∧ Blk 33 w' g cs ∧ w.grownBy w' (some g) := by
  go_enter Tryd.func43, Tryd.ntmps43
  go_wp2
  go_loopw [5, 6] (fun l i wr => ∃ (k : Nat) (q : Int) (cs : List Nat) (r : Nat), k ≤ zs.length ∧ q = (k : Int) - 1 ∧ i = .int .i64 q ∧ l = .int .u64 r ∧ r < d ∧ cs.length = zs.length ∧ Lim cs ∧ (∀ j, j < k → cs.getD j 0 = zs.getD j 0) ∧ V (cs.drop k) * d + r = V (zs.drop k) ∧ Blk 33 wr g cs ∧ w.grownBy wr (some g)) (fun _ i _ => (intOf i + 1).toNat)
  case atStart => exact ⟨zs.length, _, zs, 0, Nat.le_refl _, rfl, rfl, rfl, by omega, rfl, lz, fun _ _ => rfl, by simp [V], hblk, World.grownBy.refl _ _⟩
  case round =>
    obtain ⟨k, q, cs, r, hk, hq, rfl, rfl, hr, hcl, lc, hsame, heq, hB, hg⟩ := hrel
    have HE : Hid (V (cs.drop k) * d + r = V (zs.drop k)) := heq
    have HC : Hid (cs.length = zs.length) := hcl
    have HS : Hid (∀ j, j < k → cs.getD j 0 = zs.getD j 0) := hsame
    clear heq hsame hcl
    by_cases hk0 : k = 0
    · subst hk0
      obtain rfl : q = -1 := by omega
      clear hq
      go_wp2
      go_ret
      exact ⟨cs, r, ret_u32 (by omega), hr, HC.out, lc, by simpa using HE.out, hB, hg⟩
    · obtain ⟨j, rfl⟩ : ∃ j, k = j + 1 := ⟨k - 1, by omega⟩
      obtain rfl : q = (j : Int) := by omega
      clear hq
      have c2 := hB.cell j (by rw [HC.out]; omega)
      have c3 := hB.frozen j
      obtain ⟨x, hx⟩ : ∃ x, cs.getD j 0 = x := ⟨_, rfl⟩
      rw [hx] at c2
      have bx : x < 4294967296 := by rw [← hx]; exact lc.getD _
      have HX : Hid (cs.getD j 0 = x) := hx
      have hor := or_low r x (by omega) bx
      obtain ⟨p, hp⟩ : ∃ p, r * 4294967296 + x = p := ⟨_, rfl⟩
      have hpi : (r : Int) * 4294967296 + (x : Int) = (p : Int) := by omega
      have bp : p < d * 4294967296 := by omega
      have HP : Hid (r * 4294967296 + x = p) := hp
      have qlt : p / d < 4294967296 := Nat.div_lt_of_lt_mul bp
      have rlt : p % d < d := Nat.mod_lt _ (by omega)
      have hqd : (p : Int) / (d : Int) = ((p / d : Nat) : Int) := by simp
      have hrd : (p : Int) % (d : Int) = ((p % d : Nat) : Int) := by simp
      have HQ : Hid (d * (p / d) + p % d = p) := Nat.div_add_mod p d
      generalize p / d = qq at *
      generalize p % d = rr at *
      clear hx hp
      go_wp2
      go_roundw
      case rel =>
        refine ⟨j, _, cs.set j qq, rr, by omega, rfl, by go_num, congrArg (Value.int .u64) hrd, rlt, by rw [List.length_set]; exact HC.out, lc.set _ qlt, fun i hi => ?_, ?_, hB.set _ _ _ (by rw [HC.out]; omega) rfl, grownBy_setCell hg _ _⟩
        · rw [getD_set_ne _ _ _ _ (by omega)]; exact HS.out i (by omega)
        · rw [V_drop, V_drop zs j, getD_set_eq _ _ _ (by rw [HC.out]; omega), List.drop_set_of_lt (by omega), ← HS.out j (by omega), HX.out]
          exact divl_step HE.out HQ.out HP.out
      case measure => simp [intOf]

set_option maxHeartbeats 400000 in
/-- Of no limbs nothing is left. -/
theorem divl_nil (a : Option Addr) (co d : Nat) (w : World) :
    Calls Tryd.prog 43 #[.slice a 0 co, .int .u32 (d : Int)] w fun e w' => e = .returned (.int .u32 0) ∧ w = w' := by
  go_enter Tryd.func43, Tryd.ntmps43
  go_wp2
  go_loop [5, 6] (fun l i => l = .int .u64 0 ∧ i = .int .i64 (-1)) (fun _ i => (intOf i).toNat)
  case atStart => exact ⟨rfl, rfl⟩
  case round =>
    obtain ⟨rfl, rfl⟩ := hrel
    go_wp2
    go_ret
    exact ⟨rfl, rfl⟩

/-- One round of 'out -= b * f'. -/
theorem subm_step {cs zs ys : List Nat} {off k cy f y o p z c2 : Nat} (hy : ys.getD k 0 = y) (hp : y * f = p) (ho : zs.getD (off + k) 0 = o) (hz : z + p + cy = o + 4294967296 * c2) (hlen : off + k < cs.length)
    (he : Sv (fun i => cs.getD (off + i) 0) k + V (ys.take k) * f = Sv (fun i => zs.getD (off + i) 0) k + 4294967296 ^ k * cy) :
    Sv (fun i => (cs.set (off + k) z).getD (off + i) 0) (k + 1) + V (ys.take (k + 1)) * f = Sv (fun i => zs.getD (off + i) 0) (k + 1) + 4294967296 ^ (k + 1) * c2 := by
  rw [Sv, Sv, V_take_succ, hy, ho, getD_set_eq _ _ _ hlen, Nat.pow_succ]
  rw [Sv_congr (g := fun i => cs.getD (off + i) 0) (fun i hi => getD_set_ne _ _ _ _ (by omega))]
  subst hp
  generalize 4294967296 ^ k = q at he ⊢
  generalize Sv (fun i => cs.getD (off + i) 0) k = A at he ⊢
  generalize Sv (fun i => zs.getD (off + i) 0) k = C at he ⊢
  generalize V (ys.take k) = D at he ⊢
  have h1 : q * (z + y * f + cy) = q * (o + 4294967296 * c2) := by rw [hz]
  grind

set_option maxHeartbeats 1000000 in
theorem subm_any (g off co : Nat) (zs : List Nat) (b : Option Addr) (cb : Nat) (ys : List Nat) (f : Nat) (w : World) (hblk : Blk 33 w g zs) (lz : Lim zs) (hb : Rd w b cb ys)
    (hsep : ∀ k o, b = some ⟨k, o, none⟩ → ys ≠ [] → k ≠ g) (hf : f < 4294967296) (hlen : off + ys.length ≤ zs.length) (hbig : zs.length ≤ 4000000000) :
    Calls Tryd.prog 67 #[.slice (some ⟨g, off, none⟩) ys.length co, .slice b ys.length cb, .int .u32 (f : Int)] w fun e w' =>
      ∃ (cs : List Nat) (c : Nat), e = .returned (.int .u32 (c : Int)) ∧ c < 4294967296 ∧ cs.length = zs.length ∧ Lim cs ∧ (∀ i, i < off ∨ off + ys.length ≤ i → cs.getD i 0 = zs.getD i 0) ∧
        Sv (fun i => cs.getD (off + i) 0) ys.length + V ys * f = Sv (fun i => zs.getD (off + i) 0) ys.length + 4294967296 ^ ys.length * c ∧ Blk 33 w' g cs ∧ w.grownBy w' (some g) := by
  have fb := hb.fm
  have lb := hb.lim
  clear hb
  go_enter Tryd.func67, Tryd.ntmps67
  go_wp2
  go_loopw [7, 13] (fun c i wr => ∃ (k : Nat) (cs : List Nat) (cy : Nat), k ≤ ys.length ∧ i = .int .i64 k ∧ c = .int .u64 cy ∧ cy < 4294967296 ∧ cs.length = zs.length ∧ Lim cs ∧ (∀ i, i < off ∨ off + k ≤ i → cs.getD i 0 = zs.getD i 0) ∧
      Sv (fun i => cs.getD (off + i) 0) k + V (ys.take k) * f = Sv (fun i => zs.getD (off + i) 0) k + 4294967296 ^ k * cy ∧ Blk 33 wr g cs ∧ w.grownBy wr (some g)) (fun _ i _ => ys.length - (intOf i).toNat)
  case atStart => exact ⟨0, zs, 0, Nat.zero_le _, rfl, rfl, by decide, rfl, lz, fun _ _ => rfl, by simp [V, Sv], hblk, World.grownBy.refl _ _⟩
  case round =>
    obtain ⟨k, cs, cy, hk, rfl, rfl, hcy, hcl, lc, hsame, heq, hB, hg⟩ := hrel
    have HE : Hid (Sv (fun i => cs.getD (off + i) 0) k + V (ys.take k) * f = Sv (fun i => zs.getD (off + i) 0) k + 4294967296 ^ k * cy) := heq
    have HC : Hid (cs.length = zs.length) := hcl
    have HS : Hid (∀ i, i < off ∨ off + k ≤ i → cs.getD i 0 = zs.getD i 0) := hsame
    clear heq hsame
    by_cases hkn : k < ys.length
    · obtain ⟨b1, o1, rfl, hne, c1⟩ := fb.other hg hsep k hkn
      have c2 := hB.cell (off + k) (by omega)
      have c3 := hB.frozen (off + k)
      obtain ⟨y, hy⟩ : ∃ y, ys.getD k 0 = y := ⟨_, rfl⟩
      obtain ⟨o, ho⟩ : ∃ o, cs.getD (off + k) 0 = o := ⟨_, rfl⟩
      rw [hy] at c1
      rw [ho] at c2
      have by1 : y < 4294967296 := by rw [← hy]; exact lb.getD k
      have bo1 : o < 4294967296 := by rw [← ho]; exact lc.getD _
      obtain ⟨p, hp⟩ : ∃ p, y * f = p := ⟨_, rfl⟩
      have bp : p ≤ 18446744065119617025 := by rw [← hp]; exact mul_lt_64 by1 hf
      have hpi : (y : Int) * (f : Int) = (p : Int) := by rw [← hp]; simp
      have HY : Hid (ys.getD k 0 = y) := hy
      have HO : Hid (zs.getD (off + k) 0 = o) := by show _ = _; rw [← HS.out (off + k) (by omega)]; exact ho
      have HP : Hid (y * f = p) := hp
      clear hy ho hp hcl
      by_cases hlo : o < (p + cy) % 4294967296
      · go_wp2
        go_roundw
        case rel =>
          refine ⟨k + 1, cs.set (off + k) (o + 4294967296 - (p + cy) % 4294967296), (p + cy) / 4294967296 + 1, by omega, by go_num, by go_num, by omega, by rw [List.length_set]; exact HC.out, lc.set _ (by omega), fun i hi => ?_, subm_step HY.out HP.out HO.out (by omega) (by rw [HC.out]; omega) HE.out, hB.set _ _ _ (by rw [HC.out]; omega) (by first | omega | (simp only [wrap_u32_mod]; omega)), grownBy_setCell hg _ _⟩
          rw [getD_set_ne _ _ _ _ (by omega)]; exact HS.out i (by omega)
        case measure => simp [intOf]; omega
      · go_wp2
        go_roundw
        case rel =>
          refine ⟨k + 1, cs.set (off + k) (o - (p + cy) % 4294967296), (p + cy) / 4294967296, by omega, by go_num, by go_num, by omega, by rw [List.length_set]; exact HC.out, lc.set _ (by omega), fun i hi => ?_, subm_step HY.out HP.out HO.out (by omega) (by rw [HC.out]; omega) HE.out, hB.set _ _ _ (by rw [HC.out]; omega) (by omega), grownBy_setCell hg _ _⟩
          rw [getD_set_ne _ _ _ _ (by omega)]; exact HS.out i (by omega)
        case measure => simp [intOf]; omega
    · obtain rfl : k = ys.length := by omega
      go_wp2
      go_ret
      refine ⟨cs, cy, ret_u32 (by omega), hcy, HC.out, lc, fun i hi => HS.out i hi, ?_, hB, hg⟩
      have := HE.out
      rw [List.take_length] at this; exact this

end Go.Proofs.YtefdkajjdaplbabDoor
