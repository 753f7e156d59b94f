/-
  A block of limbs that is known whole, and what a store does to it.
  Values by places: the sum of f i times 2^(32 i), for the products and quotients that are reckoned in place.
  nat.addMultiple: the walk.
  nat.divideByLimb, nat.subMultiple: the walks.
  nat.Mul: the walk.
-/
import Derived.Test.YtkbbdkecillnpaaGreatZY9
import Derived.Test.YtkbbdkecillnpaaGreatZY8
import Derived.Laws.BitsAllLaws
import Derived.Outline
namespace Go.Proofs.YtkbbdkecillnpaaGreat
open Go.RowKit
set_option linter.unusedSimpArgs false
set_option linter.unusedVariables false

/-- Block g begins with the limbs zs, and may be written. -/
def Blk (e : TypeId) (w : World) (g : Nat) (zs : List Nat) : Prop :=
  ∃ cur : Array Value, w.heap[g]? = some (.cells cur e (0, 0)) ∧ zs.length ≤ cur.size ∧ cur.toList.take zs.length = zs.map U

theorem Blk.cell {e : TypeId} {w : World} {g : Nat} {zs : List Nat} (h : Blk e w g zs) (i : Nat) (hi : i < zs.length) : w.cell? ⟨g, i, none⟩ = some (.int .u32 (zs.getD i 0 : Nat)) := by
  obtain ⟨cur, h1, h2, h3⟩ := h
  rw [cell_of_row w g i _ e (0, 0) h1]
  have h4 : (cur.toList.take zs.length)[i]? = (zs.map U)[i]? := by rw [h3]
  rw [List.getElem?_take, if_pos hi] at h4
  simp at h4
  rw [h4]
  simp [List.getD, U, hi]
theorem Blk.frozen {e : TypeId} {w : World} {g : Nat} {zs : List Nat} (h : Blk e w g zs) (i : Nat) : w.frozen? ⟨g, i, none⟩ = false := by
  obtain ⟨cur, h1, _⟩ := h
  exact frozen_of_row w g i _ e h1
theorem Blk.lt {e : TypeId} {w : World} {g : Nat} {zs : List Nat} (h : Blk e w g zs) : g < w.heap.size := by
  obtain ⟨cur, h1, _⟩ := h
  exact (Array.getElem?_eq_some_iff.1 h1).1

theorem Blk.set {e : TypeId} {w : World} {g : Nat} {zs : List Nat} (h : Blk e w g zs) (i : Nat) (q : Int) (z : Nat) (hi : i < zs.length) (hq : q = (z : Int)) : Blk e (w.setCell ⟨g, i, none⟩ (.int .u32 q)) g (zs.set i z) := by
  subst hq
  obtain ⟨cur, h1, h2, h3⟩ := h
  refine ⟨cur.setIfInBounds i (.int .u32 (z : Int)), heap_setCell_same w g i _ e (.int .u32 (z : Int)) h1, by simpa using h2, ?_⟩
  rw [List.map_set, ← h3, Array.toList_setIfInBounds, List.length_set, List.take_set]
  rfl

theorem Blk.below {e : TypeId} {w w' : World} {g : Nat} {zs : List Nat} (h : Blk e w g zs) (hb : Below w.heap.size w w') : Blk e w' g zs := by
  have hl := h.lt
  obtain ⟨cur, h1, h2⟩ := h
  exact ⟨cur, (hb.block g hl).trans h1, h2⟩

theorem Blk.other {e : TypeId} {w w' : World} {g k : Nat} {zs : List Nat} (h : Blk e w g zs) (hg : w.grownBy w' (some k)) (hne : g ≠ k) : Blk e w' g zs := by
  have hl := h.lt
  obtain ⟨cur, h1, h2⟩ := h
  exact ⟨cur, (hg.block g hl (by simpa using hne)).trans h1, h2⟩

theorem Blk.rd {e : TypeId} {w : World} {g : Nat} {zs : List Nat} (h : Blk e w g zs) (hl : Lim zs) (off n cap : Nat) (h1 : off + n ≤ zs.length) (h2 : n ≤ cap) (h3 : cap ≤ maxLen) :
    Rd w (some ⟨g, off, none⟩) cap ((zs.drop off).take n) := by
  refine ⟨(hl.drop off).take n, by simp; omega, h3, (by simp), .inr ⟨g, off, rfl, h.lt, fun i hi => ?_⟩⟩
  simp at hi
  rw [h.cell (off + i) (by omega)]
  simp [List.getD, show off + i < zs.length by omega, show i < n by omega]

theorem grownBy_setCell {w wr : World} {g : Nat} (h : w.grownBy wr (some g)) (i : Nat) (v : Value) : w.grownBy (wr.setCell ⟨g, i, none⟩ v) (some g) :=
  ⟨h.os, h.tape, h.output, by have := h.size; simp [World.setCell]; exact this, fun k hk hne => by rw [Below.heap_setCell wr ⟨g, i, none⟩ v k (fun e => hne (by simp [e]))]; exact h.block k hk hne⟩

/-- A slice in another block than the one that is written reads as it did. -/
theorem Fm.other {w wr : World} {g : Nat} {a : Option Addr} {xs : List Nat} (h : Fm w a xs) (hg : w.grownBy wr (some g)) (hs : ∀ k o, a = some ⟨k, o, none⟩ → xs ≠ [] → k ≠ g) (k : Nat) (hk : k < xs.length) :
    ∃ b off, a = some ⟨b, off, none⟩ ∧ b ≠ g ∧ wr.cell? ⟨b, off + k, none⟩ = some (.int .u32 (xs.getD k 0 : Nat)) := by
  rcases h with rfl | ⟨b, off, h1, h2, h3⟩
  · simp at hk
  · have hne : b ≠ g := hs b off h1 (by intro e; rw [e] at hk; simp at hk)
    exact ⟨b, off, h1, hne, (World.cell?_of_block (w := w) (a := ⟨b, off + k, none⟩) (hg.block b h2 (by simpa using hne))).trans (h3 k hk)⟩

theorem Rd.other {w wr : World} {g : Nat} {a : Option Addr} {cap : Nat} {xs : List Nat} (h : Rd w a cap xs) (hg : w.grownBy wr (some g)) (hs : ∀ k o, a = some ⟨k, o, none⟩ → xs ≠ [] → k ≠ g) : Rd wr a cap xs := by
  obtain ⟨h1, h2, h3, h5, h4⟩ := h
  refine ⟨h1, h2, h3, h5, ?_⟩
  rcases h4 with h4 | ⟨b, off, e, hb1, hc⟩
  · exact .inl h4
  · by_cases hx : xs = []
    · exact .inl hx
    · exact .inr ⟨b, off, e, Nat.lt_of_lt_of_le hb1 hg.size, fun i hi => (World.cell?_of_block (w := w) (a := ⟨b, off + i, none⟩) (hg.block b hb1 (by simpa using hs b off e hx))).trans (hc i hi)⟩

theorem madeCells_zero (n : Nat) : (madeCells (Value.int .u32 0).cells n).toList = (List.replicate n 0).map U := by
  apply List.ext_getElem?
  intro i
  by_cases h : i < n
  · simp [madeCells, h, U, Value.cells, Nat.mod_one]
  · simp [madeCells, h, U]

/-- What 'make([]uint32, n)' lays. -/
theorem blk_made {e : TypeId} {w' : World} {base n g : Nat} (h : w'.ownsRow base e 1 (.slice (some ⟨g, 0, none⟩) n n) n (madeCells #[Value.int .u32 0] n).toList) : Blk e w' g (List.replicate n 0) := by
  rw [show (#[Value.int .u32 0] : Array Value) = (Value.int .u32 0).cells from rfl, madeCells_zero] at h
  rcases h.2 with ⟨h0, _⟩ | ⟨g', cap, cur, h1, h2, h3, h4, h5, h6, h7⟩
  · cases h0
  · simp at h1
    obtain ⟨rfl, rfl⟩ := h1
    exact ⟨cur, h3, by simp; omega, by simpa using h7⟩

/-- Out of a row of the call's own. -/
theorem Res.blk {e : TypeId} {base : Nat} {w : World} {a : Option Addr} {cap : Nat} {xs : List Nat} (h : Res e base w a cap xs) :
    xs = [] ∨ ∃ g, a = some ⟨g, 0, none⟩ ∧ base ≤ g ∧ Blk e w g xs := by
  rcases h.2.2 with ⟨h0, h1⟩ | ⟨g, cap', cur, h1, h2, h3, h4, h5, h6, h7⟩
  · exact .inl (List.length_eq_zero_iff.1 h1)
  · simp at h1
    obtain ⟨rfl, rfl⟩ := h1
    exact .inr ⟨g, rfl, h2, cur, h3, by omega, by simpa using h7⟩

end Go.Proofs.YtkbbdkecillnpaaGreat

namespace Go.Proofs.YtkbbdkecillnpaaGreat
set_option linter.unusedSimpArgs false
set_option linter.unusedVariables false

/-- The sum over the first k places. -/
def Sv (f : Nat → Nat) : Nat → Nat
  | 0 => 0
  | k + 1 => Sv f k + 4294967296 ^ k * f k

theorem Sv_congr {f g : Nat → Nat} {k : Nat} (h : ∀ i, i < k → f i = g i) : Sv f k = Sv g k := by
  induction k with
  | zero => rfl
  | succ k ih => rw [Sv, Sv, ih (fun i hi => h i (by omega)), h k (by omega)]

theorem Sv_add (f : Nat → Nat) (m n : Nat) : Sv f (m + n) = Sv f m + 4294967296 ^ m * Sv (fun i => f (m + i)) n := by
  induction n with
  | zero => simp [Sv]
  | succ n ih => rw [← Nat.add_assoc, Sv, ih, Sv, Nat.pow_add, Nat.mul_add, ← Nat.add_assoc, Nat.mul_assoc]

theorem Sv_lt {f : Nat → Nat} {k : Nat} (h : ∀ i, i < k → f i < 4294967296) : Sv f k < 4294967296 ^ k := by
  induction k with
  | zero => simp [Sv]
  | succ k ih =>
    have h1 := ih (fun i hi => h i (by omega))
    have h2 := h k (by omega)
    have h3 : 4294967296 ^ k * f k ≤ 4294967296 ^ k * 4294967295 := Nat.mul_le_mul_left _ (by omega)
    rw [Sv, Nat.pow_succ]; omega

theorem Sv_zero {f : Nat → Nat} {k : Nat} (h : ∀ i, i < k → f i = 0) : Sv f k = 0 := by
  induction k with
  | zero => rfl
  | succ k ih => rw [Sv, ih (fun i hi => h i (by omega)), h k (by omega)]; simp

theorem V_take_Sv (xs : List Nat) (k : Nat) : V (xs.take k) = Sv (fun i => xs.getD i 0) k := by
  induction k with
  | zero => simp [V, Sv]
  | succ k ih => rw [V_take_succ, ih, Sv]

theorem V_Sv (xs : List Nat) : V xs = Sv (fun i => xs.getD i 0) xs.length := by rw [← V_take_Sv, List.take_length]

theorem getD_set (xs : List Nat) (i j z : Nat) : (xs.set i z).getD j 0 = if i = j ∧ j < xs.length then z else xs.getD j 0 := by
  simp only [List.getD_eq_getElem?_getD, List.getElem?_set]
  by_cases h : i = j
  · subst h
    by_cases h2 : i < xs.length
    · simp [h2]
    · simp [h2]
  · simp [h]
theorem getD_set_ne (xs : List Nat) (i j z : Nat) (h : i ≠ j) : (xs.set i z).getD j 0 = xs.getD j 0 := by rw [getD_set, if_neg (by omega)]
theorem getD_set_eq (xs : List Nat) (i z : Nat) (h : i < xs.length) : (xs.set i z).getD i 0 = z := by rw [getD_set, if_pos ⟨rfl, h⟩]

/-- One round of 'out += b * f'. -/
theorem addm_step {cs zs ys : List Nat} {off k cy f y o s p : Nat} (hy : ys.getD k 0 = y) (hp : y * f = p) (ho : zs.getD (off + k) 0 = o) (hs : s = p + o + cy) (hlen : off + k < cs.length)
    (he : Sv (fun i => cs.getD (off + i) 0) k + 4294967296 ^ k * cy = Sv (fun i => zs.getD (off + i) 0) k + V (ys.take k) * f) :
    Sv (fun i => (cs.set (off + k) (s % 4294967296)).getD (off + i) 0) (k + 1) + 4294967296 ^ (k + 1) * (s / 4294967296) = Sv (fun i => zs.getD (off + i) 0) (k + 1) + V (ys.take (k + 1)) * f := by
  rw [Sv, Sv, V_take_succ, hy, ho, getD_set_eq _ _ _ hlen, Nat.pow_succ]
  rw [Sv_congr (g := fun i => cs.getD (off + i) 0) (fun i hi => getD_set_ne _ _ _ _ (by omega))]
  have hd := Nat.mod_add_div s 4294967296
  generalize s % 4294967296 = r at hd ⊢
  generalize s / 4294967296 = d at hd ⊢
  subst hs
  subst hp
  generalize 4294967296 ^ k = q at he ⊢
  generalize Sv (fun i => cs.getD (off + i) 0) k = A at he ⊢
  generalize Sv (fun i => zs.getD (off + i) 0) k = C at he ⊢
  generalize V (ys.take k) = D at he ⊢
  grind

theorem mul_lt_64 {y f : Nat} (hy : y < 4294967296) (hf : f < 4294967296) : y * f ≤ 18446744065119617025 := by
  have := Nat.mul_le_mul (show y ≤ 4294967295 by omega) (show f ≤ 4294967295 by omega)
  simpa using this

end Go.Proofs.YtkbbdkecillnpaaGreat

namespace Go.Proofs.YtkbbdkecillnpaaGreat
open Go.RowKit
set_option linter.unusedSimpArgs false
set_option linter.unusedVariables false

theorem ret_u32 {a b : Int} (h : a = b) : Ending.returned (.int .u32 a) = .returned (.int .u32 b) := by rw [h]

set_option maxHeartbeats 1000000 in
set_option maxRecDepth 100000 in
theorem addm_any (g off co : Nat) (zs : List Nat) (b : Option Addr) (cb : Nat) (ys : List Nat) (f : Nat) (w : World) (hblk : Blk 157 w g zs) (lz : Lim zs) (hb : Rd w b cb ys)
    (hsep : ∀ k o, b = some ⟨k, o, none⟩ → ys ≠ [] → k ≠ g) (hf : f < 4294967296) (hlen : off + ys.length ≤ zs.length) (hbig : zs.length ≤ 4000000000) :
    Calls Tryz.prog 129 #[.slice (some ⟨g, off, none⟩) ys.length co, .slice b ys.length cb, .int .u32 (f : Int)] w fun e w' =>
      ∃ (cs : List Nat) (c : Nat), e = .returned (.int .u32 (c : Int)) ∧ c < 4294967296 ∧ cs.length = zs.length ∧ Lim cs ∧ (∀ i, i < off ∨ off + ys.length ≤ i → cs.getD i 0 = zs.getD i 0) ∧
        Sv (fun i => cs.getD (off + i) 0) ys.length + 4294967296 ^ ys.length * c = Sv (fun i => zs.getD (off + i) 0) ys.length + V ys * f ∧ Blk 157 w' g cs ∧ w.grownBy w' (some g) := by
  have fb := hb.fm
  have lb := hb.lim
  clear hb
  go_enter Tryz.func129, Tryz.ntmps129
  go_wp2
  go_loopw [7, 13] (fun c i wr => ∃ (k : Nat) (cs : List Nat) (cy : Nat), k ≤ ys.length ∧ i = .int .i64 k ∧ c = .int .u64 cy ∧ cy < 4294967296 ∧ cs.length = zs.length ∧ Lim cs ∧ (∀ i, i < off ∨ off + k ≤ i → cs.getD i 0 = zs.getD i 0) ∧
      Sv (fun i => cs.getD (off + i) 0) k + 4294967296 ^ k * cy = Sv (fun i => zs.getD (off + i) 0) k + V (ys.take k) * f ∧ Blk 157 wr g cs ∧ w.grownBy wr (some g)) (fun _ i _ => ys.length - (intOf i).toNat)
  case atStart => exact ⟨0, zs, 0, Nat.zero_le _, rfl, rfl, by decide, rfl, lz, fun _ _ => rfl, by simp [V, Sv], hblk, World.grownBy.refl _ _⟩
  case round =>
    obtain ⟨k, cs, cy, hk, rfl, rfl, hcy, hcl, lc, hsame, heq, hB, hg⟩ := hrel
    have HE : Hid (Sv (fun i => cs.getD (off + i) 0) k + 4294967296 ^ k * cy = Sv (fun i => zs.getD (off + i) 0) k + V (ys.take k) * f) := heq
    have HC : Hid (cs.length = zs.length) := hcl
    have HS : Hid (∀ i, i < off ∨ off + k ≤ i → cs.getD i 0 = zs.getD i 0) := hsame
    clear heq hsame
    by_cases hkn : k < ys.length
    · obtain ⟨b1, o1, rfl, hne, c1⟩ := fb.other hg hsep k hkn
      have c2 := hB.cell (off + k) (by omega)
      have c3 := hB.frozen (off + k)
      obtain ⟨y, hy⟩ : ∃ y, ys.getD k 0 = y := ⟨_, rfl⟩
      obtain ⟨o, ho⟩ : ∃ o, cs.getD (off + k) 0 = o := ⟨_, rfl⟩
      rw [hy] at c1
      rw [ho] at c2
      have by1 : y < 4294967296 := by rw [← hy]; exact lb.getD k
      have bo1 : o < 4294967296 := by rw [← ho]; exact lc.getD _
      obtain ⟨p, hp⟩ : ∃ p, y * f = p := ⟨_, rfl⟩
      have bp : p ≤ 18446744065119617025 := by rw [← hp]; exact mul_lt_64 by1 hf
      have hpi : (y : Int) * (f : Int) = (p : Int) := by rw [← hp]; simp
      have HY : Hid (ys.getD k 0 = y) := hy
      have HO : Hid (zs.getD (off + k) 0 = o) := by show _ = _; rw [← HS.out (off + k) (by omega)]; exact ho
      have HP : Hid (y * f = p) := hp
      clear hy ho hp hcl
      go_wp2
      go_roundw
      case rel =>
        refine ⟨k + 1, cs.set (off + k) ((p + o + cy) % 4294967296), (p + o + cy) / 4294967296, by omega, by go_num, by go_num, by omega, by rw [List.length_set]; exact HC.out, lc.set _ (by omega), fun i hi => ?_, addm_step HY.out HP.out HO.out rfl (by rw [HC.out]; omega) HE.out, hB.set _ _ _ (by rw [HC.out]; omega) (by omega), grownBy_setCell hg _ _⟩
        rw [getD_set_ne _ _ _ _ (by omega)]; exact HS.out i (by omega)
      case measure => simp [intOf]; omega
    · obtain rfl : k = ys.length := by omega
      go_wp2
      go_ret
      refine ⟨cs, cy, ret_u32 (by omega), hcy, HC.out, lc, fun i hi => HS.out i hi, ?_, hB, hg⟩
      have := HE.out
      rw [List.take_length] at this; exact this

end Go.Proofs.YtkbbdkecillnpaaGreat

namespace Go.Proofs.YtkbbdkecillnpaaGreat
open Go.RowKit
set_option linter.unusedSimpArgs false
set_option linter.unusedVariables false

/-- A number whose low 32 bits are 0, or'ed with a limb. -/
theorem or_low (l x : Nat) (hl : l < 4294967296) (hx : x < 4294967296) : bits BinOp.or IntKind.u64 ((l : Int) * 4294967296) (x : Int) = (l : Int) * 4294967296 + (x : Int) := by
  have h := u64_or_nat (l * 4294967296) x (by omega) (by omega)
  have e : l * 4294967296 ||| x = l * 4294967296 + x := by
    have := Nat.shiftLeft_add_eq_or_of_lt (show x < 2 ^ 32 by omega) l
    rw [Nat.shiftLeft_eq] at this
    exact this.symm
  rw [e] at h
  have c1 : ((l * 4294967296 : Nat) : Int) = (l : Int) * 4294967296 := by simp
  rw [c1] at h
  rw [h]; simp

theorem wrap_u32_mod (n : Int) : IntKind.u32.wrap n = n % 4294967296 := by simp [IntKind.wrap, IntKind.bits, IntKind.signed]

theorem V_drop (xs : List Nat) (j : Nat) : V (xs.drop j) = xs.getD j 0 + 4294967296 * V (xs.drop (j + 1)) := by
  rw [V_head_tail (xs.drop j), List.tail_drop]
  simp [List.getD]

theorem divl_step {C Z d r x p qq rr : Nat} (he : C * d + r = Z) (hq : d * qq + rr = p) (hp : r * 4294967296 + x = p) : (qq + 4294967296 * C) * d + rr = x + 4294967296 * Z := by
  subst he
  subst hp
  grind

set_option maxHeartbeats 1000000 in
set_option maxRecDepth 100000 in
theorem divl_any (g co : Nat) (zs : List Nat) (d : Nat) (w : World) (hblk : Blk 157 w g zs) (lz : Lim zs) (hd0 : 1 ≤ d) (hd : d < 4294967296) (hbig : zs.length ≤ 4000000000) :
    Calls Tryz.prog 127 #[.slice (some ⟨g, 0, none⟩) zs.length co, .int .u32 (d : Int)] w fun e w' =>
      ∃ (cs : List Nat) (r : Nat), e = .returned (.int .u32 (r : Int)) ∧ r < d ∧ cs.length = zs.length ∧ Lim cs ∧ V cs * d + r = V zs ∧ Blk 157 w' g cs ∧ w.grownBy w' (some g) := by
  go_enter Tryz.func127, Tryz.ntmps127
  go_wp2
  go_loopw [5, 6] (fun l i wr => ∃ (k : Nat) (q : Int) (cs : List Nat) (r : Nat), k ≤ zs.length ∧ q = (k : Int) - 1 ∧ i = .int .i64 q ∧ l = .int .u64 r ∧ r < d ∧ cs.length = zs.length ∧ Lim cs ∧ (∀ j, j < k → cs.getD j 0 = zs.getD j 0) ∧ V (cs.drop k) * d + r = V (zs.drop k) ∧ Blk 157 wr g cs ∧ w.grownBy wr (some g)) (fun _ i _ => (intOf i + 1).toNat)
  case atStart => exact ⟨zs.length, _, zs, 0, Nat.le_refl _, rfl, rfl, rfl, by omega, rfl, lz, fun _ _ => rfl, by simp [V], hblk, World.grownBy.refl _ _⟩
  case round =>
    obtain ⟨k, q, cs, r, hk, hq, rfl, rfl, hr, hcl, lc, hsame, heq, hB, hg⟩ := hrel
    have HE : Hid (V (cs.drop k) * d + r = V (zs.drop k)) := heq
    have HC : Hid (cs.length = zs.length) := hcl
    have HS : Hid (∀ j, j < k → cs.getD j 0 = zs.getD j 0) := hsame
    clear heq hsame hcl
    by_cases hk0 : k = 0
    · subst hk0
      obtain rfl : q = -1 := by omega
      clear hq
      go_wp2
      go_ret
      exact ⟨cs, r, ret_u32 (by omega), hr, HC.out, lc, by simpa using HE.out, hB, hg⟩
    · obtain ⟨j, rfl⟩ : ∃ j, k = j + 1 := ⟨k - 1, by omega⟩
      obtain rfl : q = (j : Int) := by omega
      clear hq
      have c2 := hB.cell j (by rw [HC.out]; omega)
      have c3 := hB.frozen j
      obtain ⟨x, hx⟩ : ∃ x, cs.getD j 0 = x := ⟨_, rfl⟩
      rw [hx] at c2
      have bx : x < 4294967296 := by rw [← hx]; exact lc.getD _
      have HX : Hid (cs.getD j 0 = x) := hx
      have hor := or_low r x (by omega) bx
      obtain ⟨p, hp⟩ : ∃ p, r * 4294967296 + x = p := ⟨_, rfl⟩
      have hpi : (r : Int) * 4294967296 + (x : Int) = (p : Int) := by omega
      have bp : p < d * 4294967296 := by omega
      have HP : Hid (r * 4294967296 + x = p) := hp
      have qlt : p / d < 4294967296 := Nat.div_lt_of_lt_mul bp
      have rlt : p % d < d := Nat.mod_lt _ (by omega)
      have hqd : (p : Int) / (d : Int) = ((p / d : Nat) : Int) := by simp
      have hrd : (p : Int) % (d : Int) = ((p % d : Nat) : Int) := by simp
      have HQ : Hid (d * (p / d) + p % d = p) := Nat.div_add_mod p d
      generalize p / d = qq at *
      generalize p % d = rr at *
      clear hx hp
      go_wp2
      go_roundw
      case rel =>
        refine ⟨j, _, cs.set j qq, rr, by omega, rfl, by go_num, congrArg (Value.int .u64) hrd, rlt, by rw [List.length_set]; exact HC.out, lc.set _ qlt, fun i hi => ?_, ?_, hB.set _ _ _ (by rw [HC.out]; omega) rfl, grownBy_setCell hg _ _⟩
        · rw [getD_set_ne _ _ _ _ (by omega)]; exact HS.out i (by omega)
        · rw [V_drop, V_drop zs j, getD_set_eq _ _ _ (by rw [HC.out]; omega), List.drop_set_of_lt (by omega), ← HS.out j (by omega), HX.out]
          exact divl_step HE.out HQ.out HP.out
      case measure => simp [intOf]

set_option maxHeartbeats 400000 in
set_option maxRecDepth 100000 in
/-- Of no limbs nothing is left. -/
theorem divl_nil (a : Option Addr) (co d : Nat) (w : World) :
    Calls Tryz.prog 127 #[.slice a 0 co, .int .u32 (d : Int)] w fun e w' => e = .returned (.int .u32 0) ∧ w = w' := by
  go_enter Tryz.func127, Tryz.ntmps127
  go_wp2
  go_loop [5, 6] (fun l i => l = .int .u64 0 ∧ i = .int .i64 (-1)) (fun _ i => (intOf i).toNat)
  case atStart => exact ⟨rfl, rfl⟩
  case round =>
    obtain ⟨rfl, rfl⟩ := hrel
    go_wp2
    go_ret
    exact ⟨rfl, rfl⟩

/-- One round of 'out -= b * f'. -/
theorem subm_step {cs zs ys : List Nat} {off k cy f y o p z c2 : Nat} (hy : ys.getD k 0 = y) (hp : y * f = p) (ho : zs.getD (off + k) 0 = o) (hz : z + p + cy = o + 4294967296 * c2) (hlen : off + k < cs.length)
    (he : Sv (fun i => cs.getD (off + i) 0) k + V (ys.take k) * f = Sv (fun i => zs.getD (off + i) 0) k + 4294967296 ^ k * cy) :
    Sv (fun i => (cs.set (off + k) z).getD (off + i) 0) (k + 1) + V (ys.take (k + 1)) * f = Sv (fun i => zs.getD (off + i) 0) (k + 1) + 4294967296 ^ (k + 1) * c2 := by
  rw [Sv, Sv, V_take_succ, hy, ho, getD_set_eq _ _ _ hlen, Nat.pow_succ]
  rw [Sv_congr (g := fun i => cs.getD (off + i) 0) (fun i hi => getD_set_ne _ _ _ _ (by omega))]
  subst hp
  generalize 4294967296 ^ k = q at he ⊢
  generalize Sv (fun i => cs.getD (off + i) 0) k = A at he ⊢
  generalize Sv (fun i => zs.getD (off + i) 0) k = C at he ⊢
  generalize V (ys.take k) = D at he ⊢
  have h1 : q * (z + y * f + cy) = q * (o + 4294967296 * c2) := by rw [hz]
  grind

set_option maxHeartbeats 1000000 in
set_option maxRecDepth 100000 in
theorem subm_any (g off co : Nat) (zs : List Nat) (b : Option Addr) (cb : Nat) (ys : List Nat) (f : Nat) (w : World) (hblk : Blk 157 w g zs) (lz : Lim zs) (hb : Rd w b cb ys)
    (hsep : ∀ k o, b = some ⟨k, o, none⟩ → ys ≠ [] → k ≠ g) (hf : f < 4294967296) (hlen : off + ys.length ≤ zs.length) (hbig : zs.length ≤ 4000000000) :
    Calls Tryz.prog 153 #[.slice (some ⟨g, off, none⟩) ys.length co, .slice b ys.length cb, .int .u32 (f : Int)] w fun e w' =>
      ∃ (cs : List Nat) (c : Nat), e = .returned (.int .u32 (c : Int)) ∧ c < 4294967296 ∧ cs.length = zs.length ∧ Lim cs ∧ (∀ i, i < off ∨ off + ys.length ≤ i → cs.getD i 0 = zs.getD i 0) ∧
        Sv (fun i => cs.getD (off + i) 0) ys.length + V ys * f = Sv (fun i => zs.getD (off + i) 0) ys.length + 4294967296 ^ ys.length * c ∧ Blk 157 w' g cs ∧ w.grownBy w' (some g) := by
  have fb := hb.fm
  have lb := hb.lim
  clear hb
  go_enter Tryz.func153, Tryz.ntmps153
  go_wp2
  go_loopw [7, 13] (fun c i wr => ∃ (k : Nat) (cs : List Nat) (cy : Nat), k ≤ ys.length ∧ i = .int .i64 k ∧ c = .int .u64 cy ∧ cy < 4294967296 ∧ cs.length = zs.length ∧ Lim cs ∧ (∀ i, i < off ∨ off + k ≤ i → cs.getD i 0 = zs.getD i 0) ∧
      Sv (fun i => cs.getD (off + i) 0) k + V (ys.take k) * f = Sv (fun i => zs.getD (off + i) 0) k + 4294967296 ^ k * cy ∧ Blk 157 wr g cs ∧ w.grownBy wr (some g)) (fun _ i _ => ys.length - (intOf i).toNat)
  case atStart => exact ⟨0, zs, 0, Nat.zero_le _, rfl, rfl, by decide, rfl, lz, fun _ _ => rfl, by simp [V, Sv], hblk, World.grownBy.refl _ _⟩
  case round =>
    obtain ⟨k, cs, cy, hk, rfl, rfl, hcy, hcl, lc, hsame, heq, hB, hg⟩ := hrel
    have HE : Hid (Sv (fun i => cs.getD (off + i) 0) k + V (ys.take k) * f = Sv (fun i => zs.getD (off + i) 0) k + 4294967296 ^ k * cy) := heq
    have HC : Hid (cs.length = zs.length) := hcl
    have HS : Hid (∀ i, i < off ∨ off + k ≤ i → cs.getD i 0 = zs.getD i 0) := hsame
    clear heq hsame
    by_cases hkn : k < ys.length
    · obtain ⟨b1, o1, rfl, hne, c1⟩ := fb.other hg hsep k hkn
      have c2 := hB.cell (off + k) (by omega)
      have c3 := hB.frozen (off + k)
      obtain ⟨y, hy⟩ : ∃ y, ys.getD k 0 = y := ⟨_, rfl⟩
      obtain ⟨o, ho⟩ : ∃ o, cs.getD (off + k) 0 = o := ⟨_, rfl⟩
      rw [hy] at c1
      rw [ho] at c2
      have by1 : y < 4294967296 := by rw [← hy]; exact lb.getD k
      have bo1 : o < 4294967296 := by rw [← ho]; exact lc.getD _
      obtain ⟨p, hp⟩ : ∃ p, y * f = p := ⟨_, rfl⟩
      have bp : p ≤ 18446744065119617025 := by rw [← hp]; exact mul_lt_64 by1 hf
      have hpi : (y : Int) * (f : Int) = (p : Int) := by rw [← hp]; simp
      have HY : Hid (ys.getD k 0 = y) := hy
      have HO : Hid (zs.getD (off + k) 0 = o) := by show _ = _; rw [← HS.out (off + k) (by omega)]; exact ho
      have HP : Hid (y * f = p) := hp
      clear hy ho hp hcl
      by_cases hlo : o < (p + cy) % 4294967296
      · go_wp2
        go_roundw
        case rel =>
          refine ⟨k + 1, cs.set (off + k) (o + 4294967296 - (p + cy) % 4294967296), (p + cy) / 4294967296 + 1, by omega, by go_num, by go_num, by omega, by rw [List.length_set]; exact HC.out, lc.set _ (by omega), fun i hi => ?_, subm_step HY.out HP.out HO.out (by omega) (by rw [HC.out]; omega) HE.out, hB.set _ _ _ (by rw [HC.out]; omega) (by first | omega | (simp only [wrap_u32_mod]; omega)), grownBy_setCell hg _ _⟩
          rw [getD_set_ne _ _ _ _ (by omega)]; exact HS.out i (by omega)
        case measure => simp [intOf]; omega
      · go_wp2
        go_roundw
        case rel =>
          refine ⟨k + 1, cs.set (off + k) (o - (p + cy) % 4294967296), (p + cy) / 4294967296, by omega, by go_num, by go_num, by omega, by rw [List.length_set]; exact HC.out, lc.set _ (by omega), fun i hi => ?_, subm_step HY.out HP.out HO.out (by omega) (by rw [HC.out]; omega) HE.out, hB.set _ _ _ (by rw [HC.out]; omega) (by omega), grownBy_setCell hg _ _⟩
          rw [getD_set_ne _ _ _ _ (by omega)]; exact HS.out i (by omega)
        case measure => simp [intOf]; omega
    · obtain rfl : k = ys.length := by omega
      go_wp2
      go_ret
      refine ⟨cs, cy, ret_u32 (by omega), hcy, HC.out, lc, fun i hi => HS.out i hi, ?_, hB, hg⟩
      have := HE.out
      rw [List.take_length] at this; exact this

end Go.Proofs.YtkbbdkecillnpaaGreat

namespace Go.Proofs.YtkbbdkecillnpaaGreat
open Go.RowKit
set_option linter.unusedSimpArgs false
set_option linter.unusedVariables false

theorem getD_zeros (n i : Nat) : (List.replicate n 0).getD i 0 = 0 := by
  by_cases h : i < n <;> simp [List.getD, h]

/-- One round of a product. -/
theorem mul_step {cs ds a b : List Nat} {i x c : Nat} (hx : a.getD i 0 = x) (hl : cs.length = ds.length) (hlen : i + b.length < ds.length) (hinv : Sv (fun j => cs.getD j 0) (i + b.length) = V (a.take i) * V b)
    (hsame : ∀ j, j < i ∨ i + b.length ≤ j → ds.getD j 0 = cs.getD j 0)
    (he : Sv (fun j => ds.getD (i + j) 0) b.length + 4294967296 ^ b.length * c = Sv (fun j => cs.getD (i + j) 0) b.length + V b * x) :
    Sv (fun j => (ds.set (i + b.length) c).getD j 0) (i + 1 + b.length) = V (a.take (i + 1)) * V b := by
  rw [show i + 1 + b.length = i + b.length + 1 by omega, Sv, getD_set_eq _ _ _ hlen]
  rw [Sv_congr (g := fun j => ds.getD j 0) (fun j hj => getD_set_ne _ _ _ _ (by omega))]
  rw [Sv_add] at hinv ⊢
  rw [Sv_congr (f := fun j => ds.getD j 0) (g := fun j => cs.getD j 0) (fun j hj => hsame j (by omega)), V_take_succ, hx, Nat.pow_add]
  generalize 4294967296 ^ i = p at hinv ⊢
  generalize 4294967296 ^ b.length = q at he ⊢
  generalize Sv (fun j => cs.getD j 0) i = A at hinv ⊢
  generalize Sv (fun j => cs.getD (i + j) 0) b.length = C at he hinv ⊢
  generalize Sv (fun j => ds.getD (i + j) 0) b.length = D at he ⊢
  generalize V (a.take i) = E at hinv ⊢
  generalize V b = F at he hinv ⊢
  have h1 : p * (D + q * c) = p * (C + F * x) := by rw [he]
  grind

theorem trim_n (a : Option Addr) (cap n : Nat) (xs : List Nat) (w : World) (hn : n = xs.length) (h : Rd w a cap xs) (hl : xs.length ≤ 1000000000) :
    Calls Tryz.prog 101 #[.slice a n cap] w fun e w' => ∃ a' cap', e = .returned (.slice a' (strip xs).length cap') ∧ Res 157 w.heap.size w' a' cap' (strip xs) ∧ Below w.heap.size w w' := by
  subst hn; exact trim_any a cap xs w h hl

set_option maxHeartbeats 1600000 in
set_option maxRecDepth 100000 in
theorem mul_any (a : Option Addr) (cap : Nat) (xs : List Nat) (b : Option Addr) (cbp : Nat) (ys : List Nat) (w : World) (ha : Rd w a cap xs) (hb : Rd w b cbp ys) (hla : xs.length ≤ 400000000) (hlb : ys.length ≤ 400000000) :
    Calls Tryz.prog 105 #[.slice a xs.length cap, .slice b ys.length cbp] w fun e w' =>
      ∃ a' cap' zs, e = .returned (.slice a' zs.length cap') ∧ V zs = V xs * V ys ∧ Tr zs ∧ Res 157 w.heap.size w' a' cap' zs ∧ Below w.heap.size w w' := by
  obtain ⟨i0, hi, hz0, hz1, hz2⟩ := info_parts info_limb
  have Xr := ha.strip
  have Yr := hb.strip
  have lx := strip_length_le xs
  have ly := strip_length_le ys
  go_enter Tryz.func105, Tryz.ntmps105
  go_wp2_with fail
  refine (sig_any a cap xs _ ha).mono ?_
  rintro e w' ⟨rfl, rfl⟩
  go_wp2_with fail
  refine (sig_any b cbp ys _ hb).mono ?_
  rintro e w' ⟨rfl, rfl⟩
  clear ha hb
  have HV : Hid (V (strip xs) = V xs ∧ V (strip ys) = V ys) := ⟨V_strip xs, V_strip ys⟩
  generalize strip xs = X at Xr lx HV ⊢
  generalize strip ys = Y at Yr ly HV ⊢
  have fX := Xr.fm
  have lX := Xr.lim
  clear Xr
  go_wp2_with (at_make; refine wpList_make_full _ rfl _ _ 117 rfl w.heap.size 157 i0 (.int .u32 0) 1 Tryz.underlying117 hi hz0 hz1 _ _ _ _ (X.length + Y.length) rfl rfl (by omega) (by omega) (by rw [hz2]; omega) (by unfold maxLen; omega) (Nat.le_refl _) ?_)
  intro u0 hown0 hgrow0
  have hb0 : Below w.heap.size w u0 := (Below.refl _ _).grown hgrow0 (Nat.le_refl _) (fun k h => by cases h)
  have hB0 := blk_made hown0
  clear hown0 hgrow0
  go_wp2
  go_loopw [20] (fun i wr => ∃ (k : Nat) (cs : List Nat), k ≤ X.length ∧ i = .int .i64 k ∧ cs.length = X.length + Y.length ∧ Lim cs ∧ Sv (fun j => cs.getD j 0) (k + Y.length) = V (X.take k) * V Y ∧ Blk 157 wr w.heap.size cs ∧ Below w.heap.size w wr) (fun i _ => X.length - (intOf i).toNat)
  case atStart => exact ⟨0, _, Nat.zero_le _, rfl, List.length_replicate, fun x hx => by rw [List.eq_of_mem_replicate hx]; decide, by rw [Sv_zero (fun i hi => getD_zeros _ _)]; simp [V], hB0, hb0⟩
  case round =>
    obtain ⟨k, cs, hk, rfl, hcl, lc, hinv, hB, hnx⟩ := hrel
    have HC : Hid (cs.length = X.length + Y.length) := hcl
    have HI : Hid (Sv (fun j => cs.getD j 0) (k + Y.length) = V (X.take k) * V Y) := hinv
    have hsz := hnx.size
    clear hinv hcl
    by_cases hkn : k < X.length
    · obtain ⟨b1, o1, rfl, hlt, c1⟩ := fX.at hnx k hkn
      obtain ⟨x, hx⟩ : ∃ x, X.getD k 0 = x := ⟨_, rfl⟩
      rw [hx] at c1
      have bx : x < 4294967296 := by rw [← hx]; exact lX.getD k
      have HX : Hid (X.getD k 0 = x) := hx
      clear hx
      have hsep : ∀ k o, b = some ⟨k, o, none⟩ → Y ≠ [] → k ≠ w.heap.size := fun k o e hne => by
        subst e
        have := Yr.lt hne
        omega
      go_wp2_with fail
      refine (addm_any w.heap.size k _ cs b cbp Y x wr hB lc (Yr.below hnx) hsep bx (by rw [HC.out]; omega) (by rw [HC.out]; omega)).mono ?_
      rintro e w1 ⟨ds, c, rfl, hc, hdl, ld, hsame, heq, hB1, hg1⟩
      have hb1 : Below w.heap.size w w1 := hnx.grown hg1 hsz (fun k hk => by cases hk; exact Nat.le_refl _)
      have HD : Hid (ds.length = cs.length) := hdl
      have HS : Hid (∀ j, j < k ∨ k + Y.length ≤ j → ds.getD j 0 = cs.getD j 0) := hsame
      have HQ : Hid (Sv (fun j => ds.getD (k + j) 0) Y.length + 4294967296 ^ Y.length * c = Sv (fun j => cs.getD (k + j) 0) Y.length + V Y * x) := heq
      have c2 := hB1.cell (k + Y.length) (by rw [HD.out, HC.out]; omega)
      have c3 := hB1.frozen (k + Y.length)
      obtain ⟨o, ho⟩ : ∃ o, ds.getD (k + Y.length) 0 = o := ⟨_, rfl⟩
      rw [ho] at c2
      clear hdl hsame heq ho c1
      go_wp2
      go_roundw
      case rel =>
        exact ⟨k + 1, ds.set (k + Y.length) c, by omega, by go_num, by rw [List.length_set, HD.out]; exact HC.out, ld.set _ hc, mul_step HX.out HD.out.symm (by rw [HD.out, HC.out]; omega) HI.out HS.out HQ.out, hB1.set _ _ _ (by rw [HD.out, HC.out]; omega) rfl, hb1.setCell (Nat.le_refl _) _⟩
      case measure => simp [intOf]; omega
    · obtain rfl : k = X.length := by omega
      have hr := hB.rd lc 0 (X.length + Y.length) (X.length + Y.length) (by rw [HC.out]; omega) (Nat.le_refl _) (by unfold maxLen; omega)
      rw [List.drop_zero, List.take_of_length_le (by rw [HC.out]; exact Nat.le_refl _)] at hr
      go_wp2_with fail
      refine (trim_n _ _ (X.length + Y.length) cs _ HC.out.symm hr (by rw [HC.out]; omega)).mono ?_
      rintro e w2 ⟨a2, c2, rfl, hr2, hb2⟩
      go_wp2
      go_ret
      refine ⟨a2, c2, _, rfl, ?_, tr_strip _, hr2.mono hsz, hnx.trans (hb2.mono hsz)⟩
      have h1 := HI.out
      rw [List.take_length, HV.out.1, HV.out.2] at h1
      rw [V_strip, V_Sv, HC.out, h1]

end Go.Proofs.YtkbbdkecillnpaaGreat
