/-
  ratio.Text: the walk.
  foundryref01.Same, foundryref02.Same, foundrylaw02.plain, same, few, awake: the walks.
  fixed.Coordinate, Of14, Of16, Clamp, Field, To14: the walks.
  fixed.To14, near: the walks.
  For foundrylaw02.RatioOnce: two sums in two new blocks; texts tell numbers apart.
-/
import Derived.Test.YthoildjecoppgaaGreatDoorZ7
import Derived.Test.YthoildjecoppgaaGreatDoorZ8
import Derived.Deep.QuietTactic
import Derived.BigQuiet
import Derived.Outline
import Derived.Deep.RegionHeld3
namespace Go.Proofs.YthoildjecoppgaaGreatDoor
open Go.RowKit Go.Lib Classical
set_option linter.unusedSimpArgs false
set_option linter.unusedVariables false

/-- The chapter's text of a number. -/
def txt (q : Rat) : List UInt8 := (if q < 0 then [45] else []) ++ (decDigits q.num.natAbs ++ (if q.den = 1 then [] else 47 :: decDigits q.den))

theorem Fmd.lt_zero {n : Bool} {xs ys : List Nat} (h : Fmd n xs ys) : qv n xs ys < 0 ↔ n = true := by
  have key : 0 ≤ qv n xs ys ↔ 0 ≤ sg n (V xs) := by rw [← Rat.num_nonneg, h.parts.1]
  rw [← Rat.not_le, key]
  cases n with
  | false => simp [sg]
  | true =>
    have := h.neg rfl
    simp [sg]; omega

theorem txt_of {n : Bool} {xs ys : List Nat} (h : Fmd n xs ys) (ly : Lim ys) : txt (qv n xs ys) = (if n = true then [45] else []) ++ (decDigits (V xs) ++ (if ys = [1] then [] else 47 :: decDigits (V ys))) := by
  unfold txt
  rw [h.parts.1, h.parts.2, sg_natAbs]
  have e1 : (qv n xs ys < 0) = (n = true) := propext h.lt_zero
  have e2 : (V ys = 1) = (ys = [1]) := propext (V_eq_one ly h.2.1)
  simp only [e1, e2]

theorem digits_le : ∀ (k v : Nat), v < 2 ^ k → nDigits v ≤ k + 1 := by
  intro k
  induction k with
  | zero => intro v h; rw [nDigits_small (by omega)]; omega
  | succ k ih =>
    intro v h
    by_cases h1 : v < 10
    · rw [nDigits_small h1]; omega
    · rw [nDigits_big h1]
      have := ih (v / 10) (by rw [Nat.pow_succ] at h; omega)
      omega

/-- The digits of a natural, as a string of a size that is known. -/
theorem dec_str {xs : List Nat} (l : Lim xs) (h : xs.length ≤ 10000000) : ∃ s : ByteArray, (⟨(decDigits (V xs)).toArray⟩ : ByteArray) = s ∧ s.size ≤ 320000001 ∧ s.data.toList = decDigits (V xs) := by
  refine ⟨_, rfl, ?_, by simp⟩
  have h1 := V_lt l
  have e : 4294967296 ^ xs.length = 2 ^ (32 * xs.length) := by rw [Nat.pow_mul]
  rw [e] at h1
  have := digits_le _ _ h1
  rw [Lib.size_eq]
  simp [decDigits_length]
  omega

theorem ret_str {s : ByteArray} {l : List UInt8} (h : s.data.toList = l) : Ending.returned (.string s) = .returned (.string ⟨l.toArray⟩) := by
  subst h
  simp

set_option maxHeartbeats 2000000 in
set_option maxRecDepth 100000 in
theorem qtext_any (k : Nat) (q : Rat) (v : Value) (w : World) (h : Ct w v k q) (hk : k ≤ 10000000) (hk2 : 2 ≤ k) (htab : Pow w) :
    Calls Tryz.prog 16 #[v] w fun e w' => e = .returned (.string ⟨(txt q).toArray⟩) ∧ Below w.heap.size w w' := by
  have hX := h
  obtain ⟨n, xs, ys, ⟨a, c, a', c', rfl, hx, hy⟩, lx, ly, hq⟩ := h
  clear hq hx hy lx ly
  go_enter Tryz.func16, Tryz.ntmps16
  go_wp2_with fail
  refine (counted_any k q _ _ (hX.below (al1 _)) (by omega) hk2).mono ?_
  rintro e u1 ⟨v1, rfl, hF1, hb1⟩
  obtain ⟨B1, hbW⟩ := after1 hb1
  clear hb1 hX
  obtain ⟨p4, p5, p6, p7, p8, p9⟩ := B1.cells
  have hs2 := B1.lt
  obtain ⟨n1, x1, y1, ⟨b1, d1, b2, d2, rfl, hx', hy'⟩, hf1, l1, l2, he⟩ := hF1
  have HT : Hid (txt q = (if n1 = true then [45] else []) ++ (decDigits (V x1) ++ (if y1 = [1] then [] else 47 :: decDigits (V y1)))) := by
    show _ = _; rw [← he]; exact txt_of hf1 hy'.lim
  go_wp2_with fail
  obtain ⟨U, hU, B2, hbU, hK, ho⟩ := set3_world B1 (.bool n1) (.slice b1 x1.length d1) (.slice b2 y1.length d2)
  rw [← hU]
  clear hU p4 p5 p6 p7 p8 p9 hs2
  replace hbW := hbU _ _ hbW (by omega)
  replace hx' := hK _ _ _ hx'
  replace hy' := hK _ _ _ hy'
  clear B1 hbU hK ho
  refine (text_any _ _ _ _ hx' (by omega) (htab.below hbW)).mono ?_
  rintro e u2 ⟨rfl, hb2⟩
  replace B2 := B2.below hb2
  replace hy' := hy'.below hb2
  replace hbW : Below w.heap.size w u2 := hbW.trans (hb2.mono hbW.size)
  have lX1 := hx'.lim
  clear hb2 hx'
  obtain ⟨s1, e1, z1, t1⟩ := dec_str lX1 (by omega)
  obtain ⟨s2, e2, z2, t2⟩ := dec_str hy'.lim (by omega)
  rw [e1]
  rw [← t1, ← t2] at HT
  clear e1 t1 t2
  obtain ⟨p4, p5, p6, _⟩ := B2.cells
  cases n1 with
  | false =>
    go_wp2_with fail
    refine (isOne_any _ _ _ _ hy').mono ?_
    rintro e u ⟨rfl, rfl⟩
    by_cases h1 : y1 = [1]
    · have e1 : decide (y1 = [1]) = true := decide_eq_true h1
      rw [e1]
      clear e1
      go_wp2
      go_ret
      exact ⟨ret_str (by rw [HT.out, if_pos h1]; simp [ByteArray.data_append]), hbW⟩
    · have e1 : decide (y1 = [1]) = false := decide_eq_false h1
      rw [e1]
      clear e1
      go_wp2_with fail
      refine (text_any _ _ _ _ hy' (by omega) (htab.below hbW)).mono ?_
      rintro e u3 ⟨rfl, hb3⟩
      rw [e2]
      replace hbW : Below w.heap.size w u3 := hbW.trans (hb3.mono hbW.size)
      clear hb3 p4 p5 p6
      go_wp2
      go_ret
      exact ⟨ret_str (by rw [HT.out, if_neg h1]; simp [ByteArray.data_append]), hbW⟩
  | true =>
    go_wp2_with fail
    refine (isOne_any _ _ _ _ hy').mono ?_
    rintro e u ⟨rfl, rfl⟩
    by_cases h1 : y1 = [1]
    · have e1 : decide (y1 = [1]) = true := decide_eq_true h1
      rw [e1]
      clear e1
      go_wp2
      go_ret
      exact ⟨ret_str (by rw [HT.out, if_pos h1]; simp [ByteArray.data_append]), hbW⟩
    · have e1 : decide (y1 = [1]) = false := decide_eq_false h1
      rw [e1]
      clear e1
      go_wp2_with fail
      refine (text_any _ _ _ _ hy' (by omega) (htab.below hbW)).mono ?_
      rintro e u3 ⟨rfl, hb3⟩
      rw [e2]
      replace hbW : Below w.heap.size w u3 := hbW.trans (hb3.mono hbW.size)
      clear hb3 p4 p5 p6
      go_wp2
      go_ret
      exact ⟨ret_str (by rw [HT.out, if_neg h1]; simp [ByteArray.data_append]), hbW⟩

end Go.Proofs.YthoildjecoppgaaGreatDoor

namespace Go.Proofs.YthoildjecoppgaaGreatDoor
open Go.RowKit
set_option linter.unusedSimpArgs false
set_option linter.unusedVariables false

/-- A fraction lies in block b of U; all else is as it was in u. -/
def Sto (t : TypeId) (u U : World) (b : Nat) (x y z : Value) : Prop :=
  Box t U b x y z ∧ (∀ B w, Below B w u → B ≤ b → Below B w U) ∧ (∀ a c xs, Rd u a c xs → Rd U a c xs) ∧ (∀ t' k x y z, k ≠ b → Box t' u k x y z → Box t' U k x y z)
theorem sto_set {t : TypeId} {u : World} {b : Nat} {n : Bool} {a a' : Option Addr} {l c l' c' : Nat} (B : Box t u b (.bool n) (.slice a l c) (.slice a' l' c')) (x' y' z' : Value) :
    Sto t u (((u.setCell ⟨b, 0, none⟩ x').setCell ⟨b, 1, none⟩ y').setCell ⟨b, 2, none⟩ z') b x' y' z' := by
  obtain ⟨U, rfl, h1, h2, h3, h4⟩ := set3_world B x' y' z'
  exact ⟨h1, h2, h3, fun _ _ _ _ _ hk hB => hB.other h4 hk⟩
theorem sto_new (t : TypeId) (u : World) (x y z : Value) : Sto t u (u.alloc (.cells #[x, y, z] t)) u.heap.size x y z :=
  ⟨Box.new _ _ _ _ _, fun _ _ h hb => h.alloc hb _, fun _ _ _ h => h.below (al1 _), fun _ _ _ _ _ _ hB => hB.alloc _⟩
theorem Ct.sto {t : TypeId} {u U : World} {b : Nat} {x y z v : Value} {k : Nat} {q : Rat} (h : Ct u v k q) (s : Sto t u U b x y z) : Ct U v k q := by
  obtain ⟨n0, x0, y0, ⟨e1, e2, e3, e4, e5, e6, e7⟩, e8⟩ := h
  exact ⟨n0, x0, y0, ⟨e1, e2, e3, e4, e5, s.2.2.1 _ _ _ e6, s.2.2.1 _ _ _ e7⟩, e8⟩
theorem after1d {t : TypeId} {w u : World} {x y z : Value} (hb : Below (w.alloc (.cells #[x, y, z] t)).drew.heap.size (w.alloc (.cells #[x, y, z] t)).drew u) :
    Box t u w.heap.size x y z ∧ Below w.heap.size w u := after1 (Below.drew1.trans hb)
theorem al1d {w : World} (o : Obj) : Below w.heap.size w (w.alloc o).drew := (al1 o).drew
theorem al2d {w : World} (o o' : Obj) : Below w.heap.size w ((w.alloc o).alloc o').drew := (al2 o o').drew

/-- How far a statement has come (a mark for the walk). -/
def Stg (n : Nat) : Prop := n = n

set_option maxHeartbeats 1000000 in
set_option maxRecDepth 100000 in
/-- foundryref01.Same, of whatever two lists. -/
theorem alike_any (a b : Option Addr) (ca cb : Nat) (xs ys : List Nat) (w : World) (ha : Rd w a ca xs) (hb : Rd w b cb ys) :
    Calls Tryz.prog 37 #[.slice a xs.length ca, .slice b ys.length cb] w fun e w' => e = .returned (.bool (decide (xs = ys))) ∧ Below w.heap.size w w' := by
  have fa := ha.fm
  have fb := hb.fm
  have k1 := ha.le
  have k2 := ha.cap
  have k3 := hb.le
  have k4 := hb.cap
  unfold maxLen at k2 k4
  by_cases hl : xs.length = ys.length
  · have HL : Hid (xs.length = ys.length) := hl
    rw [← hl]
    rw [← hl] at k3
    have fb' : ∀ (wr : World), Below w.heap.size w wr → ∀ k, k < xs.length → ∃ bb off, b = some ⟨bb, off, none⟩ ∧ bb < w.heap.size ∧ wr.cell? ⟨bb, off + k, none⟩ = some (.int .u32 (ys.getD k 0 : Nat)) := fun wr hw k hk => fb.at hw k (by omega)
    clear hl ha hb fb
    go_enter Tryz.func37, Tryz.ntmps37
    go_wp2
    go_loopw [5] (fun i wr => ∃ k : Nat, k ≤ xs.length ∧ i = .int .i64 k ∧ (∀ j, j < k → xs.getD j 0 = ys.getD j 0) ∧ Below w.heap.size w wr) (fun i _ => xs.length - (intOf i).toNat)
    case atStart => exact ⟨0, Nat.zero_le _, rfl, fun j hj => by omega, Below.refl _ _⟩
    case round =>
      obtain ⟨k, hk, rfl, hal, hnx⟩ := hrel
      have HA : Hid (∀ j, j < k → xs.getD j 0 = ys.getD j 0) := hal
      clear hal
      by_cases hkn : k < xs.length
      · obtain ⟨b1, o1, rfl, _, c1⟩ := fa.at hnx k hkn
        obtain ⟨b2, o2, rfl, _, c2⟩ := fb' _ hnx k hkn
        obtain ⟨x, hx⟩ : ∃ x, xs.getD k 0 = x := ⟨_, rfl⟩
        obtain ⟨y, hy⟩ : ∃ y, ys.getD k 0 = y := ⟨_, rfl⟩
        rw [hx] at c1
        rw [hy] at c2
        have HX : Hid (xs.getD k 0 = x) := hx
        have HY : Hid (ys.getD k 0 = y) := hy
        clear hx hy
        go_wp2_with fail
        go_quiet (fail)
        by_cases hxy : x = y
        · subst hxy
          go_wp2
          go_roundw
          case rel => exact ⟨k + 1, by omega, by go_num, fun j hj => by
            rcases Nat.lt_or_ge j k with h | h
            · exact HA.out j h
            · have : j = k := by omega
              subst this
              rw [HX.out, HY.out], below_drewN hnx _⟩
          case measure => simp [intOf]; omega
        · have hne : ((x : Int) != (y : Int)) = true := by simp; omega
          go_wp2
          go_ret
          exact ⟨ret_bool (by
            have : xs ≠ ys := by
              intro e
              have h1 := HX.out
              rw [e, HY.out] at h1
              exact hxy h1.symm
            simp [this]), below_drewN hnx _⟩
      · obtain rfl : k = xs.length := by omega
        go_wp2
        go_ret
        exact ⟨ret_bool (by
          have : xs = ys := List.ext_getElem HL.out fun j h1 h2 => by
            have := HA.out j h1
            simpa [List.getD, h1, h2] using this
          simp [this]), hnx⟩
  · have hne : ((xs.length : Int) != (ys.length : Int)) = true := by simp; omega
    have hx : xs ≠ ys := fun e => hl (by rw [e])
    clear ha hb fa fb
    go_enter Tryz.func37, Tryz.ntmps37
    go_wp2
    go_ret
    exact ⟨ret_bool (by simp [hx]), Below.refl _ _⟩

set_option maxHeartbeats 1000000 in
set_option maxRecDepth 100000 in
/-- foundryref02.Same. -/
theorem alike2_any (n m : Bool) (a a' b b' : Option Addr) (c c' d d' : Nat) (xs ys ps qs : List Nat) (w : World) (hx : Rd w a c xs) (hy : Rd w a' c' ys) (hp : Rd w b d ps) (hq : Rd w b' d' qs) :
    Calls Tryz.prog 17 #[.agg #[.bool n, .slice a xs.length c, .slice a' ys.length c'], .agg #[.bool m, .slice b ps.length d, .slice b' qs.length d']] w fun e w' => e = .returned (.bool (decide (n = m ∧ xs = ps ∧ ys = qs))) ∧ Below w.heap.size w w' := by
  by_cases hnm : n = m
  · subst hnm
    have e0 : (n == n) = true := by simp
    go_enter Tryz.func17, Tryz.ntmps17
    go_wp2_with fail
    refine (alike_any _ _ _ _ _ _ _ (hx.below (al2 _ _)) (hp.below (al2 _ _))).mono ?_
    rintro e u1 ⟨rfl, hb1⟩
    replace hy := (hy.below (al2 _ _)).below hb1
    replace hq := (hq.below (al2 _ _)).below hb1
    obtain ⟨B1, B2, hbW⟩ := after2 hb1
    obtain ⟨p1, p2, p3, _⟩ := B1.cells
    obtain ⟨p4, p5, p6, _⟩ := B2.cells
    clear hb1
    by_cases hxp : xs = ps
    · have e1 : decide (xs = ps) = true := decide_eq_true hxp
      have HX : Hid (xs = ps) := hxp
      clear hxp
      rw [e1]
      clear e1
      go_wp2_with fail
      refine (alike_any _ _ _ _ _ _ _ hy hq).mono ?_
      rintro e u2 ⟨rfl, hb2⟩
      replace hbW : Below w.heap.size w u2 := hbW.trans (hb2.mono hbW.size)
      go_wp2
      go_ret
      exact ⟨ret_bool (by simp [HX.out]), hbW⟩
    · have e1 : decide (xs = ps) = false := decide_eq_false hxp
      have HX : Hid (¬ xs = ps) := hxp
      clear hxp
      rw [e1]
      clear e1
      go_wp2
      go_ret
      exact ⟨ret_bool (by simp [HX.out]), hbW⟩
  · have e0 : (n == m) = false := by simpa using hnm
    go_enter Tryz.func17, Tryz.ntmps17
    go_wp2
    go_ret
    exact ⟨ret_bool (by simp [hnm]), al2 _ _⟩

theorem awake_round : ((5 : Rat) / 2 + 1 / 2).floor = 3 := by decide +kernel
theorem awake_text : txt ((6 : Rat) / ((-4 : Int) : Rat)) = [45, 51, 47, 50] := by decide +kernel
end Go.Proofs.YthoildjecoppgaaGreatDoor

namespace Go.Proofs.YthoildjecoppgaaGreatDoor
open Go.RowKit
set_option linter.unusedSimpArgs false
set_option linter.unusedVariables false

/-- Whether a number is a coordinate. -/
def crd (z : Int) : Bool := decide (-16384 ≤ z ∧ z ≤ 16384)
/-- A number, brought to the coordinates. -/
def c14 (z : Int) : Int := if z < -16384 then -16384 else if 16384 < z then 16384 else z
/-- A fraction's coordinate. -/
def to14 (q : Rat) : Int := c14 (q * 16384 + 1 / 2).floor
/-- A number that is a field; else 0. -/
def fldN (z : Int) : Int := if -32768 ≤ z ∧ z ≤ 32767 then z else 0
/-- The error of a number that isn't. -/
def fldE (z : Int) : Int := if -32768 ≤ z ∧ z ≤ 32767 then 0 else 4
/-- Brought to least first, then to most. -/
def clp (n a b : Int) : Int := if b < (if n < a then a else n) then b else (if n < a then a else n)

theorem ret_two2 {a b c d : Int} (h : a = b) (k : c = d) : Ending.returned (.tuple #[.int .i64 a, .int .i64 c]) = .returned (.tuple #[.int .i64 b, .int .i64 d]) := by rw [h, k]
theorem ret_num {a b : Int} (h : a = b) : Ending.returned (.int .i64 a) = .returned (.int .i64 b) := by rw [h]

theorem wrap_i16 (z : Int) : IntKind.i16.wrap z = if 32768 ≤ z % 65536 then z % 65536 - 65536 else z % 65536 := by
  simp [IntKind.wrap, IntKind.bits, IntKind.signed]

end Go.Proofs.YthoildjecoppgaaGreatDoor

namespace Go.Proofs.YthoildjecoppgaaGreatDoor
open Go.RowKit
set_option linter.unusedSimpArgs false
set_option linter.unusedVariables false

theorem c14_big {q : Rat} {z : Int} (hz : (q * 16384 + 1 / 2).floor = z) (h : flB z = false) : c14 z = 16384 * sgnQ q := by
  have h1 : ¬ (-9223372036854775808 ≤ z ∧ z < 9223372036854775808) := by unfold flB at h; simpa using h
  have f1 := Rat.floor_le (q * 16384 + 1 / 2)
  have f2 := Rat.lt_floor (x := q * 16384 + 1 / 2)
  rw [hz] at f1 f2
  by_cases h2 : z < 0
  · have h3 : z ≤ -2 := by omega
    have hq : q < 0 := by
      have h4 : ((z : Int) : Rat) ≤ ((-2 : Int) : Rat) := Rat.intCast_le_intCast.2 h3
      grind
    have h0 : q ≠ 0 := by grind
    unfold sgnQ c14
    rw [if_neg h0, if_pos hq, if_pos (by omega)]
    rfl
  · have h3 : 2 ≤ z := by omega
    have hq : ¬ q < 0 := by
      have h4 : ((2 : Int) : Rat) ≤ ((z : Int) : Rat) := Rat.intCast_le_intCast.2 h3
      grind
    have h0 : q ≠ 0 := by
      have h4 : ((2 : Int) : Rat) ≤ ((z : Int) : Rat) := Rat.intCast_le_intCast.2 h3
      grind
    unfold sgnQ c14
    rw [if_neg h0, if_neg hq, if_neg (by omega), if_pos (by omega)]
    rfl

/-- A number that Between takes. -/
def nr (z : Int) : Bool := decide (-1099511627776 ≤ z ∧ z ≤ 1099511627776)

set_option maxHeartbeats 1000000 in
set_option maxRecDepth 100000 in
theorem near_any (b : Nat) (zs : List Int) (w : World) (hl : zs.length ≤ 4) (hc : ∀ i, i < zs.length → w.cell? ⟨b, i, none⟩ = some (.int .i64 (zs.getD i 0))) :
    Calls Tryz.prog 78 #[.slice (some ⟨b, 0, none⟩) zs.length 4] w fun e w' => e = .returned (.bool (zs.all nr)) ∧ w = w' := by
  have HC : Hid (∀ i, i < zs.length → w.cell? ⟨b, i, none⟩ = some (.int .i64 (zs.getD i 0))) := hc
  clear hc
  go_enter Tryz.func78, Tryz.ntmps78
  go_wp2
  go_loop [7] (fun i => ∃ k : Nat, k ≤ zs.length ∧ i = .int .i64 k ∧ (∀ j, j < k → nr (zs.getD j 0) = true)) (fun i => zs.length - (intOf i).toNat)
  case atStart => exact ⟨0, Nat.zero_le _, rfl, fun j hj => by omega⟩
  case round =>
    obtain ⟨k, hk, rfl, hal⟩ := hrel
    have HA : Hid (∀ j, j < k → nr (zs.getD j 0) = true) := hal
    clear hal
    by_cases hkn : k < zs.length
    · have c1 := HC.out k hkn
      obtain ⟨x, hx⟩ : ∃ x, zs.getD k 0 = x := ⟨_, rfl⟩
      rw [hx] at c1
      have HX : Hid (zs.getD k 0 = x) := hx
      clear hx
      have hm : x ∈ zs := by
        have := HX.out
        rw [List.getD_eq_getElem?_getD, List.getElem?_eq_getElem hkn] at this
        simp at this
        exact this ▸ List.getElem_mem hkn
      by_cases h1 : x < -1099511627776
      · go_wp2
        go_ret
        exact ⟨ret_bool (by
          symm
          rw [List.all_eq_false]
          exact ⟨x, hm, by simp [nr]; omega⟩), rfl⟩
      · by_cases h2 : 1099511627776 < x
        · go_wp2
          go_ret
          exact ⟨ret_bool (by
            symm
            rw [List.all_eq_false]
            exact ⟨x, hm, by simp [nr]; omega⟩), rfl⟩
        · go_wp2
          go_round
          case rel => exact ⟨k + 1, by omega, by go_num, fun j hj => by
            rcases Nat.lt_or_ge j k with h | h
            · exact HA.out j h
            · have : j = k := by omega
              subst this
              rw [HX.out]
              simp [nr]
              omega⟩
          case measure => simp [intOf]; omega
    · obtain rfl : k = zs.length := by omega
      go_wp2
      go_ret
      exact ⟨ret_bool (by
        symm
        rw [List.all_eq_true]
        intro x hx
        obtain ⟨j, hj, rfl⟩ := List.getElem_of_mem hx
        have := HA.out j hj
        rwa [List.getD_eq_getElem?_getD, List.getElem?_eq_getElem hj] at this), rfl⟩

end Go.Proofs.YthoildjecoppgaaGreatDoor

namespace Go.Proofs.YthoildjecoppgaaGreatDoor
open Go.RowKit Go.Lib Classical
set_option linter.unusedSimpArgs false
set_option linter.unusedVariables false

theorem cell_alloc1 {u : World} {o : Obj} {k i : Nat} (hk : k < u.heap.size) : (u.alloc o).cell? ⟨k, i, none⟩ = u.cell? ⟨k, i, none⟩ :=
  World.cell?_of_block (w := u) (a := ⟨k, i, none⟩) (Below.heap_alloc _ _ _ hk)
theorem cell_alloc2 {u : World} {o o' : Obj} {k i : Nat} (hk : k < u.heap.size) : ((u.alloc o).alloc o').cell? ⟨k, i, none⟩ = u.cell? ⟨k, i, none⟩ :=
  (cell_alloc1 (by simp; omega)).trans (cell_alloc1 hk)
theorem cell_s2 {u : World} {b b' : Nat} {x y z x' y' z' : Value} {k i : Nat} (hk : k ≠ b) (hk' : k ≠ b') :
    ((((((u.setCell ⟨b, 0, none⟩ x).setCell ⟨b, 1, none⟩ y).setCell ⟨b, 2, none⟩ z).setCell ⟨b', 0, none⟩ x').setCell ⟨b', 1, none⟩ y').setCell ⟨b', 2, none⟩ z').cell? ⟨k, i, none⟩ = u.cell? ⟨k, i, none⟩ :=
  (cell_set3 hk').trans (cell_set3 hk)
theorem cell_sa {u : World} {b : Nat} {x y z : Value} {o : Obj} {k i : Nat} (hk : k ≠ b) (hk' : k < u.heap.size) :
    ((((u.setCell ⟨b, 0, none⟩ x).setCell ⟨b, 1, none⟩ y).setCell ⟨b, 2, none⟩ z).alloc o).cell? ⟨k, i, none⟩ = u.cell? ⟨k, i, none⟩ :=
  (cell_alloc1 (by simpa [World.setCell] using hk')).trans (cell_set3 hk)
theorem sto_new' (t : TypeId) (u : World) (x y z : Value) {k : Nat} (h : u.heap.size = k) : Sto t u (u.alloc (.cells #[x, y, z] t)) k x y z := h ▸ sto_new t u x y z
/-- Two blocks, one behind the other. -/
theorem Sto.two {t : TypeId} {u U V : World} {b b' : Nat} {x y z x' y' z' : Value} (s : Sto t u U b x y z) (r : Sto t U V b' x' y' z') (h : b ≠ b') :
    ∃ W, W = V ∧ Box t W b x y z ∧ Box t W b' x' y' z' ∧ (∀ B w, Below B w u → B ≤ b → B ≤ b' → Below B w W) ∧ (∀ a c xs, Rd u a c xs → Rd W a c xs) ∧ (∀ t' k x y z, k ≠ b → k ≠ b' → Box t' u k x y z → Box t' W k x y z) :=
  ⟨V, rfl, r.2.2.2 _ _ _ _ _ h s.1, r.1, fun _ _ hb h1 h2 => r.2.1 _ _ (s.2.1 _ _ hb h1) h2, fun _ _ _ hr => r.2.2.1 _ _ _ (s.2.2.1 _ _ _ hr), fun _ _ _ _ _ h1 h2 hB => r.2.2.2 _ _ _ _ _ h2 (s.2.2.2 _ _ _ _ _ h1 hB)⟩
theorem Ct.keep {u U : World} {v : Value} {k : Nat} {q : Rat} (h : Ct u v k q) (hK : ∀ a c xs, Rd u a c xs → Rd U a c xs) : Ct U v k q := by
  obtain ⟨n0, x0, y0, ⟨e1, e2, e3, e4, e5, e6, e7⟩, e8⟩ := h
  exact ⟨n0, x0, y0, ⟨e1, e2, e3, e4, e5, hK _ _ _ e6, hK _ _ _ e7⟩, e8⟩
theorem after2d {t s : TypeId} {w u : World} {x y z x' y' z' : Value} (hb : Below ((w.alloc (.cells #[x, y, z] t)).alloc (.cells #[x', y', z'] s)).drew.heap.size ((w.alloc (.cells #[x, y, z] t)).alloc (.cells #[x', y', z'] s)).drew u) :
    Box t u w.heap.size x y z ∧ Box s u (w.heap.size + 1) x' y' z' ∧ Below w.heap.size w u := after2 (Below.drew1.trans hb)

theorem formedF_any (k : Nat) (q : Rat) (v : Value) (w : World) (h : Fr w v k q) (hk : k ≤ 400000000) :
    Calls Tryz.prog 48 #[v] w fun e w' => e = .returned (.bool true) ∧ Below w.heap.size w w' := by
  obtain ⟨n, xs, ys, ⟨a, c, a', c', rfl, hx, hy⟩, hf, lx, ly, _⟩ := h
  refine (formed_any _ _ _ _ _ _ _ _ hx hy (by omega) (by omega)).mono ?_
  rintro e u ⟨rfl, hb⟩
  exact ⟨ret_bool (decide_eq_true hf), hb⟩

/-- Two formed writings of one number. -/
def Two (w : World) (n : Bool) (a : Option Addr) (c : Nat) (xs : List Nat) (a' : Option Addr) (c' : Nat) (ys : List Nat) (m : Bool) (b : Option Addr) (d : Nat) (ps : List Nat) (b' : Option Addr) (d' : Nat) (qs : List Nat) (q : Rat) : Prop :=
  Rd w a c xs ∧ Rd w a' c' ys ∧ Rd w b d ps ∧ Rd w b' d' qs ∧ Fmd n xs ys ∧ xs.length ≤ 9 ∧ ys.length ≤ 9 ∧ qv n xs ys = q ∧ Fmd m ps qs ∧ ps.length ≤ 9 ∧ qs.length ≤ 9 ∧ qv m ps qs = q

end Go.Proofs.YthoildjecoppgaaGreatDoor
