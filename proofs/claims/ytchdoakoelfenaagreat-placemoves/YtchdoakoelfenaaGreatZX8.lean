/-
  nat.addMultiple: the walk.
  nat.divideByLimb, nat.subMultiple: the walks.
  nat.Mul: the walk.
  math/bits.Len32, LeadingZeros32; nat.shiftUp, nat.shiftDown: the walks.
  nat.Small: the walk.
-/
import Derived.Test.YtchdoakoelfenaaGreatZX7
import Derived.Laws.BitsAllLaws
import Derived.Outline
import Derived.Lib.BitFns
import Derived.Lib.Strings
import Derived.Lib.Walk
namespace Go.Proofs.YtchdoakoelfenaaGreat
open Go.RowKit
set_option linter.unusedSimpArgs false
set_option linter.unusedVariables false

theorem ret_u32 {a b : Int} (h : a = b) : Ending.returned (.int .u32 a) = .returned (.int .u32 b) := by rw [h]

set_option maxHeartbeats 1000000 in
set_option maxRecDepth 100000 in
theorem addm_any (g off co : Nat) (zs : List Nat) (b : Option Addr) (cb : Nat) (ys : List Nat) (f : Nat) (w : World) (hblk : Blk 136 w g zs) (lz : Lim zs) (hb : Rd w b cb ys)
    (hsep : ∀ k o, b = some ⟨k, o, none⟩ → ys ≠ [] → k ≠ g) (hf : f < 4294967296) (hlen : off + ys.length ≤ zs.length) (hbig : zs.length ≤ 4000000000) :
    Calls Tryz.prog 118 #[.slice (some ⟨g, off, none⟩) ys.length co, .slice b ys.length cb, .int .u32 (f : Int)] w fun e w' =>
      ∃ (cs : List Nat) (c : Nat), e = .returned (.int .u32 (c : Int)) ∧ c < 4294967296 ∧ cs.length = zs.length ∧ Lim cs ∧ (∀ i, i < off ∨ off + ys.length ≤ i → cs.getD i 0 = zs.getD i 0) ∧
        Sv (fun i => cs.getD (off + i) 0) ys.length + 4294967296 ^ ys.length * c = Sv (fun i => zs.getD (off + i) 0) ys.length + V ys * f ∧ Blk 136 w' g cs ∧ w.grownBy w' (some g) := by
  have fb := hb.fm
  have lb := hb.lim
  clear hb
  go_enter Tryz.func118, Tryz.ntmps118
  go_wp2
  go_loopw [7, 13] (fun c i wr => ∃ (k : Nat) (cs : List Nat) (cy : Nat), k ≤ ys.length ∧ i = .int .i64 k ∧ c = .int .u64 cy ∧ cy < 4294967296 ∧ cs.length = zs.length ∧ Lim cs ∧ (∀ i, i < off ∨ off + k ≤ i → cs.getD i 0 = zs.getD i 0) ∧
      Sv (fun i => cs.getD (off + i) 0) k + 4294967296 ^ k * cy = Sv (fun i => zs.getD (off + i) 0) k + V (ys.take k) * f ∧ Blk 136 wr g cs ∧ w.grownBy wr (some g)) (fun _ i _ => ys.length - (intOf i).toNat)
  case atStart => exact ⟨0, zs, 0, Nat.zero_le _, rfl, rfl, by decide, rfl, lz, fun _ _ => rfl, by simp [V, Sv], hblk, World.grownBy.refl _ _⟩
  case round =>
    obtain ⟨k, cs, cy, hk, rfl, rfl, hcy, hcl, lc, hsame, heq, hB, hg⟩ := hrel
    have HE : Hid (Sv (fun i => cs.getD (off + i) 0) k + 4294967296 ^ k * cy = Sv (fun i => zs.getD (off + i) 0) k + V (ys.take k) * f) := heq
    have HC : Hid (cs.length = zs.length) := hcl
    have HS : Hid (∀ i, i < off ∨ off + k ≤ i → cs.getD i 0 = zs.getD i 0) := hsame
    clear heq hsame
    by_cases hkn : k < ys.length
    · obtain ⟨b1, o1, rfl, hne, c1⟩ := fb.other hg hsep k hkn
      have c2 := hB.cell (off + k) (by omega)
      have c3 := hB.frozen (off + k)
      obtain ⟨y, hy⟩ : ∃ y, ys.getD k 0 = y := ⟨_, rfl⟩
      obtain ⟨o, ho⟩ : ∃ o, cs.getD (off + k) 0 = o := ⟨_, rfl⟩
      rw [hy] at c1
      rw [ho] at c2
      have by1 : y < 4294967296 := by rw [← hy]; exact lb.getD k
      have bo1 : o < 4294967296 := by rw [← ho]; exact lc.getD _
      obtain ⟨p, hp⟩ : ∃ p, y * f = p := ⟨_, rfl⟩
      have bp : p ≤ 18446744065119617025 := by rw [← hp]; exact mul_lt_64 by1 hf
      have hpi : (y : Int) * (f : Int) = (p : Int) := by rw [← hp]; simp
      have HY : Hid (ys.getD k 0 = y) := hy
      have HO : Hid (zs.getD (off + k) 0 = o) := by show _ = _; rw [← HS.out (off + k) (by omega)]; exact ho
      have HP : Hid (y * f = p) := hp
      clear hy ho hp hcl
      go_wp2
      go_roundw
      case rel =>
        refine ⟨k + 1, cs.set (off + k) ((p + o + cy) % 4294967296), (p + o + cy) / 4294967296, by omega, by go_num, by go_num, by omega, by rw [List.length_set]; exact HC.out, lc.set _ (by omega), fun i hi => ?_, addm_step HY.out HP.out HO.out rfl (by rw [HC.out]; omega) HE.out, hB.set _ _ _ (by rw [HC.out]; omega) (by omega), grownBy_setCell hg _ _⟩
        rw [getD_set_ne _ _ _ _ (by omega)]; exact HS.out i (by omega)
      case measure => simp [intOf]; omega
    · obtain rfl : k = ys.length := by omega
      go_wp2
      go_ret
      refine ⟨cs, cy, ret_u32 (by omega), hcy, HC.out, lc, fun i hi => HS.out i hi, ?_, hB, hg⟩
      have := HE.out
      rw [List.take_length] at this; exact this

end Go.Proofs.YtchdoakoelfenaaGreat

namespace Go.Proofs.YtchdoakoelfenaaGreat
open Go.RowKit
set_option linter.unusedSimpArgs false
set_option linter.unusedVariables false

/-- A number whose low 32 bits are 0, or'ed with a limb. -/
theorem or_low (l x : Nat) (hl : l < 4294967296) (hx : x < 4294967296) : bits BinOp.or IntKind.u64 ((l : Int) * 4294967296) (x : Int) = (l : Int) * 4294967296 + (x : Int) := by
  have h := u64_or_nat (l * 4294967296) x (by omega) (by omega)
  have e : l * 4294967296 ||| x = l * 4294967296 + x := by
    have := Nat.shiftLeft_add_eq_or_of_lt (show x < 2 ^ 32 by omega) l
    rw [Nat.shiftLeft_eq] at this
    exact this.symm
  rw [e] at h
  have c1 : ((l * 4294967296 : Nat) : Int) = (l : Int) * 4294967296 := by simp
  rw [c1] at h
  rw [h]; simp

theorem wrap_u32_mod (n : Int) : IntKind.u32.wrap n = n % 4294967296 := by simp [IntKind.wrap, IntKind.bits, IntKind.signed]

theorem V_drop (xs : List Nat) (j : Nat) : V (xs.drop j) = xs.getD j 0 + 4294967296 * V (xs.drop (j + 1)) := by
  rw [V_head_tail (xs.drop j), List.tail_drop]
  simp [List.getD]

theorem divl_step {C Z d r x p qq rr : Nat} (he : C * d + r = Z) (hq : d * qq + rr = p) (hp : r * 4294967296 + x = p) : (qq + 4294967296 * C) * d + rr = x + 4294967296 * Z := by
  subst he
  subst hp
  grind

set_option maxHeartbeats 1000000 in
set_option maxRecDepth 100000 in
theorem divl_any (g co : Nat) (zs : List Nat) (d : Nat) (w : World) (hblk : Blk 136 w g zs) (lz : Lim zs) (hd0 : 1 ≤ d) (hd : d < 4294967296) (hbig : zs.length ≤ 4000000000) :
    Calls Tryz.prog 116 #[.slice (some ⟨g, 0, none⟩) zs.length co, .int .u32 (d : Int)] w fun e w' =>
      ∃ (cs : List Nat) (r : Nat), e = .returned (.int .u32 (r : Int)) ∧ r < d ∧ cs.length = zs.length ∧ Lim cs ∧ V cs * d + r = V zs ∧ Blk 136 w' g cs ∧ w.grownBy w' (some g) := by
  go_enter Tryz.func116, Tryz.ntmps116
  go_wp2
  go_loopw [5, 6] (fun l i wr => ∃ (k : Nat) (q : Int) (cs : List Nat) (r : Nat), k ≤ zs.length ∧ q = (k : Int) - 1 ∧ i = .int .i64 q ∧ l = .int .u64 r ∧ r < d ∧ cs.length = zs.length ∧ Lim cs ∧ (∀ j, j < k → cs.getD j 0 = zs.getD j 0) ∧ V (cs.drop k) * d + r = V (zs.drop k) ∧ Blk 136 wr g cs ∧ w.grownBy wr (some g)) (fun _ i _ => (intOf i + 1).toNat)
  case atStart => exact ⟨zs.length, _, zs, 0, Nat.le_refl _, rfl, rfl, rfl, by omega, rfl, lz, fun _ _ => rfl, by simp [V], hblk, World.grownBy.refl _ _⟩
  case round =>
    obtain ⟨k, q, cs, r, hk, hq, rfl, rfl, hr, hcl, lc, hsame, heq, hB, hg⟩ := hrel
    have HE : Hid (V (cs.drop k) * d + r = V (zs.drop k)) := heq
    have HC : Hid (cs.length = zs.length) := hcl
    have HS : Hid (∀ j, j < k → cs.getD j 0 = zs.getD j 0) := hsame
    clear heq hsame hcl
    by_cases hk0 : k = 0
    · subst hk0
      obtain rfl : q = -1 := by omega
      clear hq
      go_wp2
      go_ret
      exact ⟨cs, r, ret_u32 (by omega), hr, HC.out, lc, by simpa using HE.out, hB, hg⟩
    · obtain ⟨j, rfl⟩ : ∃ j, k = j + 1 := ⟨k - 1, by omega⟩
      obtain rfl : q = (j : Int) := by omega
      clear hq
      have c2 := hB.cell j (by rw [HC.out]; omega)
      have c3 := hB.frozen j
      obtain ⟨x, hx⟩ : ∃ x, cs.getD j 0 = x := ⟨_, rfl⟩
      rw [hx] at c2
      have bx : x < 4294967296 := by rw [← hx]; exact lc.getD _
      have HX : Hid (cs.getD j 0 = x) := hx
      have hor := or_low r x (by omega) bx
      obtain ⟨p, hp⟩ : ∃ p, r * 4294967296 + x = p := ⟨_, rfl⟩
      have hpi : (r : Int) * 4294967296 + (x : Int) = (p : Int) := by omega
      have bp : p < d * 4294967296 := by omega
      have HP : Hid (r * 4294967296 + x = p) := hp
      have qlt : p / d < 4294967296 := Nat.div_lt_of_lt_mul bp
      have rlt : p % d < d := Nat.mod_lt _ (by omega)
      have hqd : (p : Int) / (d : Int) = ((p / d : Nat) : Int) := by simp
      have hrd : (p : Int) % (d : Int) = ((p % d : Nat) : Int) := by simp
      have HQ : Hid (d * (p / d) + p % d = p) := Nat.div_add_mod p d
      generalize p / d = qq at *
      generalize p % d = rr at *
      clear hx hp
      go_wp2
      go_roundw
      case rel =>
        refine ⟨j, _, cs.set j qq, rr, by omega, rfl, by go_num, congrArg (Value.int .u64) hrd, rlt, by rw [List.length_set]; exact HC.out, lc.set _ qlt, fun i hi => ?_, ?_, hB.set _ _ _ (by rw [HC.out]; omega) rfl, grownBy_setCell hg _ _⟩
        · rw [getD_set_ne _ _ _ _ (by omega)]; exact HS.out i (by omega)
        · rw [V_drop, V_drop zs j, getD_set_eq _ _ _ (by rw [HC.out]; omega), List.drop_set_of_lt (by omega), ← HS.out j (by omega), HX.out]
          exact divl_step HE.out HQ.out HP.out
      case measure => simp [intOf]

set_option maxHeartbeats 400000 in
set_option maxRecDepth 100000 in
/-- Of no limbs nothing is left. -/
theorem divl_nil (a : Option Addr) (co d : Nat) (w : World) :
    Calls Tryz.prog 116 #[.slice a 0 co, .int .u32 (d : Int)] w fun e w' => e = .returned (.int .u32 0) ∧ w = w' := by
  go_enter Tryz.func116, Tryz.ntmps116
  go_wp2
  go_loop [5, 6] (fun l i => l = .int .u64 0 ∧ i = .int .i64 (-1)) (fun _ i => (intOf i).toNat)
  case atStart => exact ⟨rfl, rfl⟩
  case round =>
    obtain ⟨rfl, rfl⟩ := hrel
    go_wp2
    go_ret
    exact ⟨rfl, rfl⟩

/-- One round of 'out -= b * f'. -/
theorem subm_step {cs zs ys : List Nat} {off k cy f y o p z c2 : Nat} (hy : ys.getD k 0 = y) (hp : y * f = p) (ho : zs.getD (off + k) 0 = o) (hz : z + p + cy = o + 4294967296 * c2) (hlen : off + k < cs.length)
    (he : Sv (fun i => cs.getD (off + i) 0) k + V (ys.take k) * f = Sv (fun i => zs.getD (off + i) 0) k + 4294967296 ^ k * cy) :
    Sv (fun i => (cs.set (off + k) z).getD (off + i) 0) (k + 1) + V (ys.take (k + 1)) * f = Sv (fun i => zs.getD (off + i) 0) (k + 1) + 4294967296 ^ (k + 1) * c2 := by
  rw [Sv, Sv, V_take_succ, hy, ho, getD_set_eq _ _ _ hlen, Nat.pow_succ]
  rw [Sv_congr (g := fun i => cs.getD (off + i) 0) (fun i hi => getD_set_ne _ _ _ _ (by omega))]
  subst hp
  generalize 4294967296 ^ k = q at he ⊢
  generalize Sv (fun i => cs.getD (off + i) 0) k = A at he ⊢
  generalize Sv (fun i => zs.getD (off + i) 0) k = C at he ⊢
  generalize V (ys.take k) = D at he ⊢
  have h1 : q * (z + y * f + cy) = q * (o + 4294967296 * c2) := by rw [hz]
  grind

set_option maxHeartbeats 1000000 in
set_option maxRecDepth 100000 in
theorem subm_any (g off co : Nat) (zs : List Nat) (b : Option Addr) (cb : Nat) (ys : List Nat) (f : Nat) (w : World) (hblk : Blk 136 w g zs) (lz : Lim zs) (hb : Rd w b cb ys)
    (hsep : ∀ k o, b = some ⟨k, o, none⟩ → ys ≠ [] → k ≠ g) (hf : f < 4294967296) (hlen : off + ys.length ≤ zs.length) (hbig : zs.length ≤ 4000000000) :
    Calls Tryz.prog 137 #[.slice (some ⟨g, off, none⟩) ys.length co, .slice b ys.length cb, .int .u32 (f : Int)] w fun e w' =>
      ∃ (cs : List Nat) (c : Nat), e = .returned (.int .u32 (c : Int)) ∧ c < 4294967296 ∧ cs.length = zs.length ∧ Lim cs ∧ (∀ i, i < off ∨ off + ys.length ≤ i → cs.getD i 0 = zs.getD i 0) ∧
        Sv (fun i => cs.getD (off + i) 0) ys.length + V ys * f = Sv (fun i => zs.getD (off + i) 0) ys.length + 4294967296 ^ ys.length * c ∧ Blk 136 w' g cs ∧ w.grownBy w' (some g) := by
  have fb := hb.fm
  have lb := hb.lim
  clear hb
  go_enter Tryz.func137, Tryz.ntmps137
  go_wp2
  go_loopw [7, 13] (fun c i wr => ∃ (k : Nat) (cs : List Nat) (cy : Nat), k ≤ ys.length ∧ i = .int .i64 k ∧ c = .int .u64 cy ∧ cy < 4294967296 ∧ cs.length = zs.length ∧ Lim cs ∧ (∀ i, i < off ∨ off + k ≤ i → cs.getD i 0 = zs.getD i 0) ∧
      Sv (fun i => cs.getD (off + i) 0) k + V (ys.take k) * f = Sv (fun i => zs.getD (off + i) 0) k + 4294967296 ^ k * cy ∧ Blk 136 wr g cs ∧ w.grownBy wr (some g)) (fun _ i _ => ys.length - (intOf i).toNat)
  case atStart => exact ⟨0, zs, 0, Nat.zero_le _, rfl, rfl, by decide, rfl, lz, fun _ _ => rfl, by simp [V, Sv], hblk, World.grownBy.refl _ _⟩
  case round =>
    obtain ⟨k, cs, cy, hk, rfl, rfl, hcy, hcl, lc, hsame, heq, hB, hg⟩ := hrel
    have HE : Hid (Sv (fun i => cs.getD (off + i) 0) k + V (ys.take k) * f = Sv (fun i => zs.getD (off + i) 0) k + 4294967296 ^ k * cy) := heq
    have HC : Hid (cs.length = zs.length) := hcl
    have HS : Hid (∀ i, i < off ∨ off + k ≤ i → cs.getD i 0 = zs.getD i 0) := hsame
    clear heq hsame
    by_cases hkn : k < ys.length
    · obtain ⟨b1, o1, rfl, hne, c1⟩ := fb.other hg hsep k hkn
      have c2 := hB.cell (off + k) (by omega)
      have c3 := hB.frozen (off + k)
      obtain ⟨y, hy⟩ : ∃ y, ys.getD k 0 = y := ⟨_, rfl⟩
      obtain ⟨o, ho⟩ : ∃ o, cs.getD (off + k) 0 = o := ⟨_, rfl⟩
      rw [hy] at c1
      rw [ho] at c2
      have by1 : y < 4294967296 := by rw [← hy]; exact lb.getD k
      have bo1 : o < 4294967296 := by rw [← ho]; exact lc.getD _
      obtain ⟨p, hp⟩ : ∃ p, y * f = p := ⟨_, rfl⟩
      have bp : p ≤ 18446744065119617025 := by rw [← hp]; exact mul_lt_64 by1 hf
      have hpi : (y : Int) * (f : Int) = (p : Int) := by rw [← hp]; simp
      have HY : Hid (ys.getD k 0 = y) := hy
      have HO : Hid (zs.getD (off + k) 0 = o) := by show _ = _; rw [← HS.out (off + k) (by omega)]; exact ho
      have HP : Hid (y * f = p) := hp
      clear hy ho hp hcl
      by_cases hlo : o < (p + cy) % 4294967296
      · go_wp2
        go_roundw
        case rel =>
          refine ⟨k + 1, cs.set (off + k) (o + 4294967296 - (p + cy) % 4294967296), (p + cy) / 4294967296 + 1, by omega, by go_num, by go_num, by omega, by rw [List.length_set]; exact HC.out, lc.set _ (by omega), fun i hi => ?_, subm_step HY.out HP.out HO.out (by omega) (by rw [HC.out]; omega) HE.out, hB.set _ _ _ (by rw [HC.out]; omega) (by first | omega | (simp only [wrap_u32_mod]; omega)), grownBy_setCell hg _ _⟩
          rw [getD_set_ne _ _ _ _ (by omega)]; exact HS.out i (by omega)
        case measure => simp [intOf]; omega
      · go_wp2
        go_roundw
        case rel =>
          refine ⟨k + 1, cs.set (off + k) (o - (p + cy) % 4294967296), (p + cy) / 4294967296, by omega, by go_num, by go_num, by omega, by rw [List.length_set]; exact HC.out, lc.set _ (by omega), fun i hi => ?_, subm_step HY.out HP.out HO.out (by omega) (by rw [HC.out]; omega) HE.out, hB.set _ _ _ (by rw [HC.out]; omega) (by omega), grownBy_setCell hg _ _⟩
          rw [getD_set_ne _ _ _ _ (by omega)]; exact HS.out i (by omega)
        case measure => simp [intOf]; omega
    · obtain rfl : k = ys.length := by omega
      go_wp2
      go_ret
      refine ⟨cs, cy, ret_u32 (by omega), hcy, HC.out, lc, fun i hi => HS.out i hi, ?_, hB, hg⟩
      have := HE.out
      rw [List.take_length] at this; exact this

end Go.Proofs.YtchdoakoelfenaaGreat

namespace Go.Proofs.YtchdoakoelfenaaGreat
open Go.RowKit
set_option linter.unusedSimpArgs false
set_option linter.unusedVariables false

theorem getD_zeros (n i : Nat) : (List.replicate n 0).getD i 0 = 0 := by
  by_cases h : i < n <;> simp [List.getD, h]

/-- One round of a product. -/
theorem mul_step {cs ds a b : List Nat} {i x c : Nat} (hx : a.getD i 0 = x) (hl : cs.length = ds.length) (hlen : i + b.length < ds.length) (hinv : Sv (fun j => cs.getD j 0) (i + b.length) = V (a.take i) * V b)
    (hsame : ∀ j, j < i ∨ i + b.length ≤ j → ds.getD j 0 = cs.getD j 0)
    (he : Sv (fun j => ds.getD (i + j) 0) b.length + 4294967296 ^ b.length * c = Sv (fun j => cs.getD (i + j) 0) b.length + V b * x) :
    Sv (fun j => (ds.set (i + b.length) c).getD j 0) (i + 1 + b.length) = V (a.take (i + 1)) * V b := by
  rw [show i + 1 + b.length = i + b.length + 1 by omega, Sv, getD_set_eq _ _ _ hlen]
  rw [Sv_congr (g := fun j => ds.getD j 0) (fun j hj => getD_set_ne _ _ _ _ (by omega))]
  rw [Sv_add] at hinv ⊢
  rw [Sv_congr (f := fun j => ds.getD j 0) (g := fun j => cs.getD j 0) (fun j hj => hsame j (by omega)), V_take_succ, hx, Nat.pow_add]
  generalize 4294967296 ^ i = p at hinv ⊢
  generalize 4294967296 ^ b.length = q at he ⊢
  generalize Sv (fun j => cs.getD j 0) i = A at hinv ⊢
  generalize Sv (fun j => cs.getD (i + j) 0) b.length = C at he hinv ⊢
  generalize Sv (fun j => ds.getD (i + j) 0) b.length = D at he ⊢
  generalize V (a.take i) = E at hinv ⊢
  generalize V b = F at he hinv ⊢
  have h1 : p * (D + q * c) = p * (C + F * x) := by rw [he]
  grind

theorem trim_n (a : Option Addr) (cap n : Nat) (xs : List Nat) (w : World) (hn : n = xs.length) (h : Rd w a cap xs) (hl : xs.length ≤ 1000000000) :
    Calls Tryz.prog 102 #[.slice a n cap] w fun e w' => ∃ a' cap', e = .returned (.slice a' (strip xs).length cap') ∧ Res 136 w.heap.size w' a' cap' (strip xs) ∧ Below w.heap.size w w' := by
  subst hn; exact trim_any a cap xs w h hl

set_option maxHeartbeats 1600000 in
set_option maxRecDepth 100000 in
theorem mul_any (a : Option Addr) (cap : Nat) (xs : List Nat) (b : Option Addr) (cbp : Nat) (ys : List Nat) (w : World) (ha : Rd w a cap xs) (hb : Rd w b cbp ys) (hla : xs.length ≤ 400000000) (hlb : ys.length ≤ 400000000) :
    Calls Tryz.prog 106 #[.slice a xs.length cap, .slice b ys.length cbp] w fun e w' =>
      ∃ a' cap' zs, e = .returned (.slice a' zs.length cap') ∧ V zs = V xs * V ys ∧ Tr zs ∧ Res 136 w.heap.size w' a' cap' zs ∧ Below w.heap.size w w' := by
  obtain ⟨i0, hi, hz0, hz1, hz2⟩ := info_parts info_limb
  have Xr := ha.strip
  have Yr := hb.strip
  have lx := strip_length_le xs
  have ly := strip_length_le ys
  go_enter Tryz.func106, Tryz.ntmps106
  go_wp2_with fail
  refine (sig_any a cap xs _ ha).mono ?_
  rintro e w' ⟨rfl, rfl⟩
  go_wp2_with fail
  refine (sig_any b cbp ys _ hb).mono ?_
  rintro e w' ⟨rfl, rfl⟩
  clear ha hb
  have HV : Hid (V (strip xs) = V xs ∧ V (strip ys) = V ys) := ⟨V_strip xs, V_strip ys⟩
  generalize strip xs = X at Xr lx HV ⊢
  generalize strip ys = Y at Yr ly HV ⊢
  have fX := Xr.fm
  have lX := Xr.lim
  clear Xr
  go_wp2_with (at_make; refine wpList_make_full _ rfl _ _ 107 rfl w.heap.size 136 i0 (.int .u32 0) 1 Tryz.underlying107 hi hz0 hz1 _ _ _ _ (X.length + Y.length) rfl rfl (by omega) (by omega) (by rw [hz2]; omega) (by unfold maxLen; omega) (Nat.le_refl _) ?_)
  intro u0 hown0 hgrow0
  have hb0 : Below w.heap.size w u0 := (Below.refl _ _).grown hgrow0 (Nat.le_refl _) (fun k h => by cases h)
  have hB0 := blk_made hown0
  clear hown0 hgrow0
  go_wp2
  go_loopw [20] (fun i wr => ∃ (k : Nat) (cs : List Nat), k ≤ X.length ∧ i = .int .i64 k ∧ cs.length = X.length + Y.length ∧ Lim cs ∧ Sv (fun j => cs.getD j 0) (k + Y.length) = V (X.take k) * V Y ∧ Blk 136 wr w.heap.size cs ∧ Below w.heap.size w wr) (fun i _ => X.length - (intOf i).toNat)
  case atStart => exact ⟨0, _, Nat.zero_le _, rfl, List.length_replicate, fun x hx => by rw [List.eq_of_mem_replicate hx]; decide, by rw [Sv_zero (fun i hi => getD_zeros _ _)]; simp [V], hB0, hb0⟩
  case round =>
    obtain ⟨k, cs, hk, rfl, hcl, lc, hinv, hB, hnx⟩ := hrel
    have HC : Hid (cs.length = X.length + Y.length) := hcl
    have HI : Hid (Sv (fun j => cs.getD j 0) (k + Y.length) = V (X.take k) * V Y) := hinv
    have hsz := hnx.size
    clear hinv hcl
    by_cases hkn : k < X.length
    · obtain ⟨b1, o1, rfl, hlt, c1⟩ := fX.at hnx k hkn
      obtain ⟨x, hx⟩ : ∃ x, X.getD k 0 = x := ⟨_, rfl⟩
      rw [hx] at c1
      have bx : x < 4294967296 := by rw [← hx]; exact lX.getD k
      have HX : Hid (X.getD k 0 = x) := hx
      clear hx
      have hsep : ∀ k o, b = some ⟨k, o, none⟩ → Y ≠ [] → k ≠ w.heap.size := fun k o e hne => by
        subst e
        have := Yr.lt hne
        omega
      go_wp2_with fail
      refine (addm_any w.heap.size k _ cs b cbp Y x wr hB lc (Yr.below hnx) hsep bx (by rw [HC.out]; omega) (by rw [HC.out]; omega)).mono ?_
      rintro e w1 ⟨ds, c, rfl, hc, hdl, ld, hsame, heq, hB1, hg1⟩
      have hb1 : Below w.heap.size w w1 := hnx.grown hg1 hsz (fun k hk => by cases hk; exact Nat.le_refl _)
      have HD : Hid (ds.length = cs.length) := hdl
      have HS : Hid (∀ j, j < k ∨ k + Y.length ≤ j → ds.getD j 0 = cs.getD j 0) := hsame
      have HQ : Hid (Sv (fun j => ds.getD (k + j) 0) Y.length + 4294967296 ^ Y.length * c = Sv (fun j => cs.getD (k + j) 0) Y.length + V Y * x) := heq
      have c2 := hB1.cell (k + Y.length) (by rw [HD.out, HC.out]; omega)
      have c3 := hB1.frozen (k + Y.length)
      obtain ⟨o, ho⟩ : ∃ o, ds.getD (k + Y.length) 0 = o := ⟨_, rfl⟩
      rw [ho] at c2
      clear hdl hsame heq ho c1
      go_wp2
      go_roundw
      case rel =>
        exact ⟨k + 1, ds.set (k + Y.length) c, by omega, by go_num, by rw [List.length_set, HD.out]; exact HC.out, ld.set _ hc, mul_step HX.out HD.out.symm (by rw [HD.out, HC.out]; omega) HI.out HS.out HQ.out, hB1.set _ _ _ (by rw [HD.out, HC.out]; omega) rfl, hb1.setCell (Nat.le_refl _) _⟩
      case measure => simp [intOf]; omega
    · obtain rfl : k = X.length := by omega
      have hr := hB.rd lc 0 (X.length + Y.length) (X.length + Y.length) (by rw [HC.out]; omega) (Nat.le_refl _) (by unfold maxLen; omega)
      rw [List.drop_zero, List.take_of_length_le (by rw [HC.out]; exact Nat.le_refl _)] at hr
      go_wp2_with fail
      refine (trim_n _ _ (X.length + Y.length) cs _ HC.out.symm hr (by rw [HC.out]; omega)).mono ?_
      rintro e w2 ⟨a2, c2, rfl, hr2, hb2⟩
      go_wp2
      go_ret
      refine ⟨a2, c2, _, rfl, ?_, tr_strip _, hr2.mono hsz, hnx.trans (hb2.mono hsz)⟩
      have h1 := HI.out
      rw [List.take_length, HV.out.1, HV.out.2] at h1
      rw [V_strip, V_Sv, HC.out, h1]

end Go.Proofs.YtchdoakoelfenaaGreat

namespace Go.Proofs.YtchdoakoelfenaaGreat
open Go.RowKit
set_option linter.unusedSimpArgs false
set_option linter.unusedVariables false

set_option maxHeartbeats 1000000 in
set_option maxRecDepth 100000 in
theorem len32_any (x : Int) (w : World) (h0 : 0 ≤ x) (h1 : x ≤ 4294967295) :
    Calls Tryz.prog 135 #[.int .u32 x] w fun e w' => e = .returned (.int .i64 (Lib.bitLen x.toNat)) ∧ w = w' := by
  rcases (show 16777216 ≤ x ∨ (65536 ≤ x ∧ x < 16777216) ∨ (256 ≤ x ∧ x < 65536) ∨ x < 256 from by omega) with h | ⟨h, h'⟩ | ⟨h, h'⟩ | h
  · skip
    have q0 : 0 ≤ x / 65536 / 256 := by omega
    have q1 : x / 65536 / 256 ≤ 255 := by omega
    have e8 := Lib.len8_of (x / 65536 / 256) q0 q1
    have hb := Lib.bitLen_le8' (x / 65536 / 256) q0 q1
    have s := Lib.bitLen_shift24 x.toNat (by omega) (by omega)
    have et : (x / 65536 / 256).toNat = x.toNat / 16777216 := by omega
    rw [et] at e8 hb
    have HB : Hid (Lib.bitLen x.toNat = 24 + Lib.bitLen (x.toNat / 16777216)) := s
    clear s
    generalize Lib.bitLen (x.toNat / 16777216) = n at e8 hb HB
    clear et
    go_enter Tryz.func135, Tryz.ntmps135
    go_wp2
    go_ret
    exact ⟨ret_i64 (by have := HB.out; omega), rfl⟩
  · skip
    have q0 : 0 ≤ x / 65536 := by omega
    have q1 : x / 65536 ≤ 255 := by omega
    have e8 := Lib.len8_of (x / 65536) q0 q1
    have hb := Lib.bitLen_le8' (x / 65536) q0 q1
    have s := Lib.bitLen_shift16 x.toNat (by omega) (by omega)
    have et : (x / 65536).toNat = x.toNat / 65536 := by omega
    rw [et] at e8 hb
    have HB : Hid (Lib.bitLen x.toNat = 16 + Lib.bitLen (x.toNat / 65536)) := s
    clear s
    generalize Lib.bitLen (x.toNat / 65536) = n at e8 hb HB
    clear et
    go_enter Tryz.func135, Tryz.ntmps135
    go_wp2
    go_ret
    exact ⟨ret_i64 (by have := HB.out; omega), rfl⟩
  · skip
    have q0 : 0 ≤ x / 256 := by omega
    have q1 : x / 256 ≤ 255 := by omega
    have e8 := Lib.len8_of (x / 256) q0 q1
    have hb := Lib.bitLen_le8' (x / 256) q0 q1
    have s := Lib.bitLen_shift8 x.toNat (by omega) (by omega)
    have et : (x / 256).toNat = x.toNat / 256 := by omega
    rw [et] at e8 hb
    have HB : Hid (Lib.bitLen x.toNat = 8 + Lib.bitLen (x.toNat / 256)) := s
    clear s
    generalize Lib.bitLen (x.toNat / 256) = n at e8 hb HB
    clear et
    go_enter Tryz.func135, Tryz.ntmps135
    go_wp2
    go_ret
    exact ⟨ret_i64 (by have := HB.out; omega), rfl⟩
  · skip
    have q0 : 0 ≤ x := by omega
    have q1 : x ≤ 255 := by omega
    have e8 := Lib.len8_of (x) q0 q1
    have hb := Lib.bitLen_le8' (x) q0 q1
    have et : (x).toNat = x.toNat := by omega
    rw [et] at e8 hb
    have HB : Hid (Lib.bitLen x.toNat = 0 + Lib.bitLen (x.toNat)) := by show _ = _; rw [Nat.zero_add]
    skip
    generalize Lib.bitLen (x.toNat) = n at e8 hb HB
    clear et
    go_enter Tryz.func135, Tryz.ntmps135
    go_wp2
    go_ret
    exact ⟨ret_i64 (by have := HB.out; omega), rfl⟩

set_option maxHeartbeats 400000 in
set_option maxRecDepth 100000 in
theorem lz32_any (x : Nat) (w : World) (h1 : x < 4294967296) :
    Calls Tryz.prog 127 #[.int .u32 (x : Int)] w fun e w' => e = .returned (.int .i64 (32 - (Lib.bitLen x : Int))) ∧ w = w' := by
  have hl := Lib.bitLen_le x 32 (by decide) h1
  go_enter Tryz.func127, Tryz.ntmps127
  go_wp2_with fail
  refine (len32_any (x : Int) _ (by omega) (by omega)).mono ?_
  rintro e w' ⟨rfl, rfl⟩
  rw [Int.toNat_natCast]
  obtain ⟨n, hn⟩ : ∃ n, Lib.bitLen x = n := ⟨_, rfl⟩
  have HN : Hid (Lib.bitLen x = n) := hn
  rw [hn] at hl ⊢
  clear hn
  go_wp2
  go_ret
  exact ⟨ret_i64 (by rw [HN.out]), rfl⟩

theorem wrap_u64_mod (n : Int) : IntKind.u64.wrap n = n % 18446744073709551616 := by simp [IntKind.wrap, IntKind.bits, IntKind.signed]

theorem or_shift {x p cy s : Nat} (hp : x * 2 ^ s = p) (hc : cy < 2 ^ s) (hb : p + cy < 18446744073709551616) : bits BinOp.or IntKind.u64 (p : Int) (cy : Int) = (p : Int) + (cy : Int) := by
  have h := u64_or_nat p cy (by omega) (by omega)
  have e : p ||| cy = p + cy := by
    have := Nat.shiftLeft_add_eq_or_of_lt hc x
    rw [Nat.shiftLeft_eq, hp] at this
    exact this.symm
  rw [h, e]; simp

theorem shup_step {zs xs : List Nat} {k cy x p s : Nat} (hz : zs.length = k) (he : V zs + 4294967296 ^ k * cy = V (xs.take k) * 2 ^ s) (hx : xs.getD k 0 = x) (hp : x * 2 ^ s = p) :
    V (zs ++ [(p + cy) % 4294967296]) + 4294967296 ^ (k + 1) * ((p + cy) / 4294967296) = V (xs.take (k + 1)) * 2 ^ s := by
  rw [V_snoc, hz, V_take_succ, hx, Nat.pow_succ]
  have hd := Nat.mod_add_div (p + cy) 4294967296
  generalize (p + cy) % 4294967296 = r at hd ⊢
  generalize (p + cy) / 4294967296 = d at hd ⊢
  subst hp
  generalize 4294967296 ^ k = q at he ⊢
  generalize V zs = o at he ⊢
  generalize V (xs.take k) = A at he ⊢
  generalize 2 ^ s = S at he hd ⊢
  have h1 : q * (r + 4294967296 * d) = q * (x * S + cy) := by rw [hd]
  grind

set_option maxHeartbeats 1000000 in
set_option maxRecDepth 100000 in
theorem shup_any (a : Option Addr) (cap : Nat) (xs : List Nat) (s : Nat) (w : World) (h : Rd w a cap xs) (hl : xs.length ≤ 500000000) (hs : s < 32) :
    Calls Tryz.prog 128 #[.slice a xs.length cap, .int .i64 (s : Int)] w fun e w' =>
      ∃ a' cap' zs, e = .returned (.slice a' zs.length cap') ∧ zs.length = xs.length + 1 ∧ V zs = V xs * 2 ^ s ∧ Res 136 w.heap.size w' a' cap' zs ∧ Below w.heap.size w w' := by
  obtain ⟨i0, hi, hz0, hz1, hz2⟩ := info_parts info_limb
  have fL := h.fm
  have lL := h.lim
  clear h
  go_enter Tryz.func128, Tryz.ntmps128
  go_wp2_with (at_make; refine wpList_make_own _ rfl _ _ 107 rfl w.heap.size 136 i0 (.int .u32 0) 1 Tryz.underlying107 hi hz0 hz1 _ _ _ (xs.length + 1) rfl rfl (by omega) (by rw [hz2]; omega) (by unfold maxLen; omega) (Nat.le_refl _) ?_)
  intro u0 hown0 hgrow0
  have hb0 : Below w.heap.size w u0 := (Below.refl _ _).grown hgrow0 (Nat.le_refl _) (fun k h => by cases h)
  go_wp2
  go_loopw [5, 6, 16] (fun out c i wr => ∃ (k : Nat) (zs : List Nat) (cy : Nat), k ≤ xs.length ∧ i = .int .i64 k ∧ c = .int .u64 cy ∧ cy < 2 ^ s ∧ zs.length = k ∧ Lim zs ∧ V zs + 4294967296 ^ k * cy = V (xs.take k) * 2 ^ s ∧ wr.ownsRow w.heap.size 136 1 out k (zs.map U) ∧ Below w.heap.size w wr) (fun _ _ i _ => xs.length - (intOf i).toNat)
  case atStart => exact ⟨0, [], 0, Nat.zero_le _, rfl, rfl, Nat.pow_pos (by decide), rfl, Lim.nil, by simp [V], hown0, hb0⟩
  case round =>
    obtain ⟨k, zs, cy, hk, rfl, rfl, hcy, hzl, lz, heq, hown, hnx⟩ := hrel
    have HE : Hid (V zs + 4294967296 ^ k * cy = V (xs.take k) * 2 ^ s) := heq
    have HZ : Hid (zs.length = k) := hzl
    have hsz := hnx.size
    clear heq hzl
    by_cases hkn : k < xs.length
    · obtain ⟨bl, ol, rfl, _, hcl⟩ := fL.at hnx k hkn
      obtain ⟨x, hx⟩ : ∃ x, xs.getD k 0 = x := ⟨_, rfl⟩
      have bx : x < 4294967296 := by rw [← hx]; exact lL.getD k
      rw [hx] at hcl
      have HX : Hid (xs.getD k 0 = x) := hx
      clear hx
      obtain ⟨p, hp⟩ : ∃ p, x * 2 ^ s = p := ⟨_, rfl⟩
      have hP1 : 2 ^ s ≤ 2 ^ 31 := Nat.pow_le_pow_right (by decide) (by omega)
      have bp0 : p ≤ 4294967295 * 2 ^ s := by rw [← hp]; exact Nat.mul_le_mul_right _ (by omega)
      have bp : p ≤ 9223372034707292160 := by omega
      have hpi : (x : Int) * 2 ^ s = (p : Int) := by rw [← hp]; simp
      have hw1 : IntKind.u64.wrap (p : Int) = (p : Int) := by rw [wrap_u64_mod]; omega
      have hor : bits BinOp.or IntKind.u64 (p : Int) (cy : Int) = (p : Int) + (cy : Int) := or_shift hp hcy (by omega)
      have hcy' : (p + cy) / 4294967296 < 2 ^ s := Nat.div_lt_of_lt_mul (by omega)
      have HP : Hid (x * 2 ^ s = p) := hp
      have bcy : cy < 2147483648 := by omega
      have HCY : Hid ((p + cy) / 4294967296 < 2 ^ s) := hcy'
      clear hp hP1 bp0 hcy hcy'
      go_wp2_with (at_builtin; refine wpList_append_one rfl _ _ 107 rfl w.heap.size 136 i0 Tryz.underlying107 hi hz0 hz1 hz2 _ k zs rfl (hown.alloc _) wr.heap.size ((p + cy) % 4294967296) rfl (cell_new1 _ _ _ _ (by omega)) (by omega) (by simp; omega) ?_)
      intro v' w1 hown1 hgrow1
      have hb1 : Below w.heap.size w w1 := (hnx.alloc hsz _).grown hgrow1 (by simp; omega) (fun k hk => (hown.lt k hk).1)
      clear hown
      go_wp2
      go_roundw
      case rel =>
        refine ⟨k + 1, zs ++ [(p + cy) % 4294967296], (p + cy) / 4294967296, by omega, by go_num, by go_num, HCY.out, by simp [HZ.out], lz.snoc (by omega), ?_, own_snoc hown1, hb1⟩
        exact shup_step HZ.out HE.out HX.out HP.out
      case measure => simp [intOf]; omega
    · obtain rfl : k = xs.length := by omega
      have hP1 : 2 ^ s ≤ 2 ^ 31 := Nat.pow_le_pow_right (by decide) (by omega)
      have bcy : cy < 4294967296 := by omega
      clear hcy hP1
      go_wp2_with (at_builtin; refine wpList_append_one rfl _ _ 107 rfl w.heap.size 136 i0 Tryz.underlying107 hi hz0 hz1 hz2 _ _ zs rfl (hown.alloc _) wr.heap.size cy rfl (cell_new1 _ _ _ _ (by omega)) (by omega) (by simp; omega) ?_)
      intro v' w1 hown1 hgrow1
      have hb1 : Below w.heap.size w w1 := (hnx.alloc hsz _).grown hgrow1 (by simp; omega) (fun k hk => (hown.lt k hk).1)
      obtain ⟨a', cap', rfl, hres⟩ := Res.of (lz.snoc bcy) (own_snoc hown1)
      clear hown1 hown
      go_wp2
      go_ret
      refine ⟨a', cap', zs ++ [cy], by simp, by simp [HZ.out], ?_, hres, hb1⟩
      have h1 := HE.out
      rw [List.take_length] at h1
      rw [V_snoc, HZ.out, h1]

theorem bitLen_spec : ∀ (k x : Nat), x < 2 ^ k → k ≤ 64 → x ≠ 0 → 1 ≤ Lib.bitLen x ∧ 2 ^ (Lib.bitLen x - 1) ≤ x ∧ x < 2 ^ Lib.bitLen x := by
  intro k
  induction k with
  | zero => intro x h _ h0; simp at h; omega
  | succ k ih =>
    intro x h hk h0
    have hx64 : x < 2 ^ 64 := Nat.lt_of_lt_of_le h (Nat.pow_le_pow_right (by decide) hk)
    have hh := Lib.bitLen_half x h0 hx64
    by_cases h1 : x = 1
    · subst h1
      have e : Lib.bitLen 1 = 1 := by decide
      rw [e]; decide
    · obtain ⟨i1, i2, i3⟩ := ih (x / 2) (by rw [Nat.pow_succ] at h; omega) (by omega) (by omega)
      rw [hh]
      refine ⟨by omega, ?_, ?_⟩
      · rw [show 1 + Lib.bitLen (x / 2) - 1 = (Lib.bitLen (x / 2) - 1) + 1 by omega, Nat.pow_succ]; omega
      · rw [Nat.add_comm, Nat.pow_succ]; omega

/-- What LeadingZeros32 tells: so far is shifted till the topmost bit is set. -/
theorem lz_spec {x : Nat} (h0 : x ≠ 0) (h : x < 4294967296) : ∃ s : Nat, s < 32 ∧ (32 - (Lib.bitLen x : Int)) = (s : Int) ∧ 2147483648 ≤ x * 2 ^ s ∧ x * 2 ^ s < 4294967296 := by
  obtain ⟨h1, h2, h3⟩ := bitLen_spec 32 x h (by decide) h0
  have hl := Lib.bitLen_le x 32 (by decide) h
  generalize Lib.bitLen x = n at *
  refine ⟨32 - n, by omega, by omega, ?_, ?_⟩
  · have : 2 ^ (n - 1) * 2 ^ (32 - n) ≤ x * 2 ^ (32 - n) := Nat.mul_le_mul_right _ h2
    rw [← Nat.pow_add, show n - 1 + (32 - n) = 31 by omega] at this
    exact this
  · have : x * 2 ^ (32 - n) < 2 ^ n * 2 ^ (32 - n) := Nat.mul_lt_mul_of_pos_right h3 (Nat.pow_pos (by decide))
    rw [← Nat.pow_add, show n + (32 - n) = 32 by omega] at this
    exact this

theorem shdn_step {T ab x S : Nat} (s : Nat) (hs : s < 32) (hS : S = 2 ^ s) (hab : ab % S = T % S) (hx : x < 4294967296) :
    (x + 4294967296 * T) / S = (ab * 4294967296 + x) / S % 4294967296 + 4294967296 * (T / S) := by
  have hp : 0 < S := by rw [hS]; exact Nat.pow_pos (by decide)
  have hT := Nat.div_add_mod T S
  have hA := Nat.div_add_mod ab S
  have hr := Nat.mod_lt T hp
  rw [hab] at hA
  generalize T / S = q at hT ⊢
  generalize ab / S = qa at hA
  generalize T % S = r at hT hA hr
  have e1 : x + 4294967296 * T = (x + r * 4294967296) + S * (4294967296 * q) := by rw [← hT]; grind
  have e2 : ab * 4294967296 + x = (x + r * 4294967296) + S * (qa * 4294967296) := by rw [← hA]; grind
  rw [e1, e2, Nat.add_mul_div_left _ _ hp, Nat.add_mul_div_left _ _ hp, Nat.add_mul_mod_self_right]
  have hlt : (x + r * 4294967296) / S < 4294967296 := by
    refine Nat.div_lt_of_lt_mul ?_
    have h1 : (r + 1) * 4294967296 ≤ S * 4294967296 := Nat.mul_le_mul_right _ (by omega)
    omega
  rw [Nat.mod_eq_of_lt hlt]

theorem V_mod {xs : List Nat} {s S : Nat} (hs : s < 32) (hS : S = 2 ^ s) : V xs % S = xs.getD 0 0 % S := by
  rw [V_head_tail]
  have e : (4294967296 : Nat) = S * 2 ^ (32 - s) := by
    rw [hS, ← Nat.pow_add, show s + (32 - s) = 32 by omega]
  rw [e, Nat.mul_assoc, Nat.add_mul_mod_self_left]

set_option maxHeartbeats 1000000 in
set_option maxRecDepth 100000 in
theorem shdn_any (a : Option Addr) (cap : Nat) (xs : List Nat) (s : Nat) (w : World) (h : Rd w a cap xs) (hl : xs.length ≤ 500000000) (hs : s < 32) :
    Calls Tryz.prog 130 #[.slice a xs.length cap, .int .i64 (s : Int)] w fun e w' =>
      ∃ g zs, e = .returned (.slice (some ⟨g, 0, none⟩) xs.length xs.length) ∧ zs.length = xs.length ∧ V zs = V xs / 2 ^ s ∧ Rd w' (some ⟨g, 0, none⟩) xs.length zs ∧ Below w.heap.size w w' := by
  obtain ⟨i0, hi, hz0, hz1, hz2⟩ := info_parts info_limb
  have fL := h.fm
  have lL := h.lim
  clear h
  obtain ⟨S, hS⟩ : ∃ S, S = 2 ^ s := ⟨_, rfl⟩
  have HSS : Hid (S = 2 ^ s) := hS
  clear hS
  go_enter Tryz.func130, Tryz.ntmps130
  go_wp2_with (at_make; refine wpList_make_full _ rfl _ _ 107 rfl w.heap.size 136 i0 (.int .u32 0) 1 Tryz.underlying107 hi hz0 hz1 _ _ _ _ xs.length rfl rfl (by omega) (by omega) (by rw [hz2]; omega) (by unfold maxLen; omega) (Nat.le_refl _) ?_)
  intro u0 hown0 hgrow0
  have hb0 : Below w.heap.size w u0 := (Below.refl _ _).grown hgrow0 (Nat.le_refl _) (fun k h => by cases h)
  have hB0 := blk_made hown0
  clear hown0 hgrow0
  go_wp2
  go_loopw [6, 7] (fun v i wr => ∃ (k : Nat) (q : Int) (cs : List Nat) (ab : Nat), k ≤ xs.length ∧ q = (k : Int) - 1 ∧ i = .int .i64 q ∧ v = .int .u64 ab ∧ ab < 4294967296 ∧ ab % S = V (xs.drop k) % S ∧ cs.length = xs.length ∧ Lim cs ∧ V (cs.drop k) = V (xs.drop k) / S ∧ Blk 136 wr w.heap.size cs ∧ Below w.heap.size w wr) (fun _ i _ => (intOf i + 1).toNat)
  case atStart => exact ⟨xs.length, _, _, 0, Nat.le_refl _, rfl, rfl, rfl, by decide, by simp [V], List.length_replicate, fun x hx => by rw [List.eq_of_mem_replicate hx]; decide, by simp [V], hB0, hb0⟩
  case round =>
    obtain ⟨k, q, cs, ab, hk, hq, rfl, rfl, hab, habm, hcl, lc, heq, hB, hnx⟩ := hrel
    have HE : Hid (V (cs.drop k) = V (xs.drop k) / S) := heq
    have HC : Hid (cs.length = xs.length) := hcl
    have HA : Hid (ab % S = V (xs.drop k) % S) := habm
    have hsz := hnx.size
    clear heq hcl habm
    by_cases hk0 : k = 0
    · subst hk0
      obtain rfl : q = -1 := by omega
      clear hq
      go_wp2
      go_ret
      refine ⟨w.heap.size, cs, rfl, HC.out, ?_, ?_, hnx⟩
      · rw [← HSS.out]; simpa using HE.out
      · have hr := hB.rd lc 0 xs.length xs.length (by rw [HC.out]; omega) (Nat.le_refl _) (by unfold maxLen; omega)
        rw [List.drop_zero, List.take_of_length_le (by rw [HC.out]; exact Nat.le_refl _)] at hr
        exact hr
    · obtain ⟨j, rfl⟩ : ∃ j, k = j + 1 := ⟨k - 1, by omega⟩
      obtain rfl : q = (j : Int) := by omega
      clear hq
      obtain ⟨bl, ol, rfl, hblt, hcx⟩ := fL.at hnx j (by omega)
      obtain ⟨x, hx⟩ : ∃ x, xs.getD j 0 = x := ⟨_, rfl⟩
      rw [hx] at hcx
      have bx : x < 4294967296 := by rw [← hx]; exact lL.getD _
      have HX : Hid (xs.getD j 0 = x) := hx
      have c2 := hB.cell j (by rw [HC.out]; omega)
      have c3 := hB.frozen j
      obtain ⟨o, ho⟩ : ∃ o, cs.getD j 0 = o := ⟨_, rfl⟩
      rw [ho] at c2
      have hor := or_low ab x hab bx
      obtain ⟨p, hp⟩ : ∃ p, ab * 4294967296 + x = p := ⟨_, rfl⟩
      have hpi : (ab : Int) * 4294967296 + (x : Int) = (p : Int) := by omega
      have HP : Hid (ab * 4294967296 + x = p) := hp
      have bp : p < 18446744073709551616 := by omega
      obtain ⟨t, ht⟩ : ∃ t, p / 2 ^ s = t := ⟨_, rfl⟩
      have hti : (p : Int) / 2 ^ s = (t : Int) := by rw [← ht]; simp
      have bt : t < 18446744073709551616 := by rw [← ht]; exact Nat.lt_of_le_of_lt (Nat.div_le_self _ _) bp
      have HT : Hid (p / S = t) := by show _ = _; rw [HSS.out]; exact ht
      have hne : bl ≠ w.heap.size := by omega
      clear hx ho hp ht
      go_wp2
      go_roundw
      case rel =>
        refine ⟨j, _, cs.set j (t % 4294967296), x, by omega, rfl, by go_num, rfl, bx, ?_, by rw [List.length_set]; exact HC.out, lc.set _ (by omega), ?_, hB.set _ _ _ (by rw [HC.out]; omega) (by omega), hnx.setCell (Nat.le_refl _) _⟩
        · rw [V_mod hs HSS.out, ← HX.out]; simp [List.getD]
        · rw [V_drop, V_drop xs j, getD_set_eq _ _ _ (by rw [HC.out]; omega), List.drop_set_of_lt (by omega), HE.out, HX.out, shdn_step s hs HSS.out HA.out bx, HP.out, HT.out]
      case measure => simp [intOf]

end Go.Proofs.YtchdoakoelfenaaGreat

namespace Go.Proofs.YtchdoakoelfenaaGreat
open Go.RowKit
set_option linter.unusedSimpArgs false
set_option linter.unusedVariables false

/-- The value, if it has 64 bits; else 0. -/
def smallN (v : Nat) : Nat := if v < 18446744073709551616 then v else 0
theorem smallN_lt {v : Nat} (h : v < 18446744073709551616) : smallN v = v := by unfold smallN; rw [if_pos h]
theorem smallN_ge {v : Nat} (h : ¬ v < 18446744073709551616) : smallN v = 0 := by unfold smallN; rw [if_neg h]
def isSmall (v : Nat) : Bool := decide (v < 18446744073709551616)
theorem isSmall_lt {v : Nat} (h : v < 18446744073709551616) : isSmall v = true := by simp [isSmall, h]
theorem isSmall_ge {v : Nat} (h : ¬ v < 18446744073709551616) : isSmall v = false := by simp [isSmall, h]

theorem or_zero (x : Nat) (hx : x < 4294967296) : bits BinOp.or IntKind.u64 0 (x : Int) = (x : Int) := by
  have h := u64_or_nat 0 x (by decide) (by omega)
  simpa using h
theorem or_high (n x : Nat) (hn : n < 4294967296) (hx : x < 4294967296) : bits BinOp.or IntKind.u64 (n : Int) ((x : Int) * 4294967296) = (n : Int) + (x : Int) * 4294967296 := by
  have h := u64_or_nat n (x * 4294967296) (by omega) (by omega)
  have e : n ||| x * 4294967296 = n + x * 4294967296 := by
    have := Nat.shiftLeft_add_eq_or_of_lt (show n < 2 ^ 32 by omega) x
    rw [Nat.shiftLeft_eq] at this
    rw [Nat.or_comm, Nat.add_comm]
    exact this.symm
  rw [e] at h
  have c1 : ((x * 4294967296 : Nat) : Int) = (x : Int) * 4294967296 := by simp
  rw [c1] at h
  rw [h]; simp

theorem V_two_lt {X : List Nat} (l : Lim X) (h : X.length ≤ 2) : V X < 18446744073709551616 := by
  have h1 := V_lt l
  have h2 : 4294967296 ^ X.length ≤ 4294967296 ^ 2 := Nat.pow_le_pow_right (by decide) h
  omega
theorem V_three_ge {X : List Nat} (t : Tr X) (h : 2 < X.length) : ¬ V X < 18446744073709551616 := by
  intro hv
  have := len_le_of_V t (k := 2) hv
  omega

set_option maxHeartbeats 1000000 in
set_option maxRecDepth 100000 in
theorem small_any (a : Option Addr) (cap : Nat) (xs : List Nat) (w : World) (h : Rd w a cap xs) :
    Calls Tryz.prog 104 #[.slice a xs.length cap] w fun e w' => e = .returned (.tuple #[.int .u64 (smallN (V xs) : Nat), .bool (isSmall (V xs))]) ∧ w = w' := by
  have Xr := h.strip
  have tX := tr_strip xs
  go_enter Tryz.func104, Tryz.ntmps104
  go_wp2_with fail
  refine (sig_any a cap xs _ h).mono ?_
  rintro e w' ⟨rfl, rfl⟩
  clear h
  have HV : Hid (V (strip xs) = V xs) := V_strip xs
  generalize strip xs = X at Xr tX HV ⊢
  have k1 := Xr.le
  have k2 := Xr.cap
  unfold maxLen at k2
  have fX := Xr.fm
  have lX := Xr.lim
  clear Xr
  by_cases hl : 2 < X.length
  · have HG : Hid (¬ V xs < 18446744073709551616) := by show ¬ _; rw [← HV.out]; exact V_three_ge tX hl
    go_wp2
    go_ret2
    exact ⟨by rw [smallN_ge HG.out, isSmall_ge HG.out]; rfl, rfl⟩
  · have HG : Hid (V xs < 18446744073709551616) := by show _ < _; rw [← HV.out]; exact V_two_lt lX (by omega)
    go_wp2
    go_loop [4, 14] (fun n i => ∃ (k m : Nat), k ≤ X.length ∧ i = .int .i64 k ∧ n = .int .u64 m ∧ m = V (X.take k)) (fun _ i => X.length - (intOf i).toNat)
    case atStart => exact ⟨0, 0, Nat.zero_le _, rfl, rfl, by simp [V]⟩
    case round =>
      obtain ⟨k, m, hk, rfl, rfl, hm⟩ := hrel
      have HM : Hid (m = V (X.take k)) := hm
      clear hm
      by_cases hkn : k < X.length
      · obtain ⟨bl, ol, rfl, _, hcx⟩ := fX.at (Below.refl _ _) k hkn
        obtain ⟨x, hx⟩ : ∃ x, X.getD k 0 = x := ⟨_, rfl⟩
        have bx : x < 4294967296 := by rw [← hx]; exact lX.getD k
        rw [hx] at hcx
        have HX : Hid (X.getD k 0 = x) := hx
        clear hx
        have HS := V_take_succ X k
        rcases (show k = 0 ∨ k = 1 by omega) with hk0 | hk1
        · subst hk0
          rw [Nat.add_zero] at hcx
          obtain rfl : m = 0 := by rw [HM.out]; simp [V]
          have ho := or_zero x bx
          have HS2 : Hid (x = V (X.take 1)) := by show _ = _; rw [HS, HX.out]; simp [V]
          clear HS
          go_wp2
          go_round
          case rel => exact ⟨1, x, by omega, by go_num, by go_num, HS2.out⟩
          case measure => simp [intOf]; omega
        · subst hk1
          have hmb : m < 4294967296 := by
            rw [HM.out, V_take_Sv, Sv, Sv]; simp only [Nat.pow_zero, Nat.one_mul, Nat.zero_add]; exact lX.getD 0
          have ho := or_high m x hmb bx
          have HS2 : Hid (m + x * 4294967296 = V (X.take 2)) := by show _ = _; rw [HS, HX.out, ← HM.out]; omega
          clear HS
          go_wp2
          go_round
          case rel => exact ⟨2, m + x * 4294967296, by omega, by go_num, by go_num, HS2.out⟩
          case measure => simp [intOf]; omega
      · obtain rfl : k = X.length := by omega
        go_wp2
        go_ret2
        refine ⟨?_, rfl⟩
        rw [smallN_lt HG.out, isSmall_lt HG.out, ← HV.out]
        have := HM.out
        rw [List.take_length] at this
        rw [← this]
        rfl

end Go.Proofs.YtchdoakoelfenaaGreat
