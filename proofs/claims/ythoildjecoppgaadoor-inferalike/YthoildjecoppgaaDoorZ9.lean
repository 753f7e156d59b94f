/-
  nat.Text: the walk.
  ratio.Text: the walk.
  foundryref01.Same, foundryref02.Same, foundrylaw02.plain, same, few, awake: the walks.
  fixed.Coordinate, Of14, Of16, Clamp, Field, To14: the walks.
  fixed.To14, near: the walks.
-/
import Derived.Test.YthoildjecoppgaaDoorZ8
import Derived.Test.YthoildjecoppgaaDoorZ7
import Derived.Deep.QuietTactic
import Derived.BigQuiet
import Derived.Outline
import Derived.Deep.RegionHeld3
namespace Go.Proofs.YthoildjecoppgaaDoor
open Go.RowKit Go.Lib
set_option linter.unusedSimpArgs false
set_option linter.unusedVariables false

/-- What is written when the groups from k on are. -/
def told (gs : List Nat) (k : Nat) : List UInt8 := if k = gs.length then [] else decDigits (G (gs.drop k))
theorem told_end (gs : List Nat) : told gs gs.length = [] := by unfold told; rw [if_pos rfl]
theorem told_top {gs : List Nat} {j g : Nat} (hj : j + 1 = gs.length) (hg : gs.getD j 0 = g) : told gs j = decDigits g := by
  unfold told
  rw [if_neg (by omega), G_drop, hg, show j + 1 = gs.length from hj, List.drop_length]
  rfl
theorem told_step {gs : List Nat} {v j g : Nat} (h : Grps gs v) (hj : j + 1 < gs.length) (hg : gs.getD j 0 = g) :
    told gs j = told gs (j + 1) ++ (List.replicate (9 - nDigits g) 48 ++ decDigits g) := by
  obtain ⟨_, _, hlt, htop⟩ := h
  have hgb : g < 1000000000 := by
    rw [← hg]
    refine hlt _ ?_
    simp [List.getD, show j < gs.length by omega]
  have hq : 1 ≤ G (gs.drop (j + 1)) := G_top (by rcases htop with h | h; omega; exact h) _ hj
  unfold told
  rw [if_neg (by omega), if_neg (by omega), G_drop, hg]
  exact group_step hq hgb
theorem told_zero {gs : List Nat} {v : Nat} (h : Grps gs v) : told gs 0 = decDigits v := by
  obtain ⟨hne, hv, _⟩ := h
  unfold told
  rw [if_neg (fun h => hne (List.length_eq_zero_iff.1 h.symm)), List.drop_zero, hv]

theorem dig_len {g : Nat} (h : g < 1000000000) : nDigits g ≤ 9 := (pad_dec 9 g (by decide) h).2

theorem rep48 (c : Nat) : repeatL [48] c = List.replicate c 48 := by
  have := repeatL_replicate 48 1 c
  rw [Nat.mul_one] at this
  exact this

set_option maxRecDepth 100000 in
theorem rep_any (c : Nat) (hc : c ≤ 9) (w : World) :
    Calls Tryd.prog 44 #[.string ⟨#[48]⟩, .int .i64 (c : Int)] w fun e w' => ∃ z : ByteArray, e = .returned (.string z) ∧ z.size = c ∧ strCells z = byteCells (List.replicate c 48) ∧ Below w.heap.size w w' := by
  have h1 : (⟨#[48]⟩ : ByteArray).size = 1 := rfl
  refine (Tryd.strings_Repeat ⟨#[48]⟩ c w (by omega) (by rw [h1]; omega)).mono ?_
  rintro e w' ⟨rfl, hb⟩
  have e1 : (⟨#[48]⟩ : ByteArray).data.toList = [48] := rfl
  rw [e1, rep48]
  refine ⟨_, rfl, ?_, rfl, hb⟩
  simp [ByteArray.size]

set_option maxHeartbeats 1000000 in
set_option maxRecDepth 100000 in
theorem text_any (a : Option Addr) (cap : Nat) (xs : List Nat) (w : World) (h : Rd w a cap xs) (hl : xs.length ≤ 10000000) (htab : Pow w) :
    Calls Tryd.prog 32 #[.slice a xs.length cap] w fun e w' => e = .returned (.string ⟨(decDigits (V xs)).toArray⟩) ∧ Below w.heap.size w w' := by
  go_enter Tryd.func32, Tryd.ntmps32
  go_wp2_with fail
  refine (groups_any a cap xs _ h hl).mono ?_
  rintro e w1 ⟨a1, c1, gs, rfl, hG, hgl, hr1, hb1⟩
  have fm := hr1.rd.fm
  have hs1 := hb1.size
  have htab1 := htab.below hb1
  have HG : Hid (Grps gs (V xs)) := hG
  have hne : 1 ≤ gs.length := by
    rcases Nat.eq_zero_or_pos gs.length with h | h
    · exact absurd (List.length_eq_zero_iff.1 h) hG.1
    · exact h
  clear hr1 h htab hG
  have hf0 := Lib.fresh_isBuilder 90 5 w1
  have hb0 : Below w1.heap.size w1 (w1.alloc (.cells #[.pointer none, .slice none 0 0] 90)) := (Below.refl _ _).alloc (Nat.le_refl _) _
  go_wp2
  go_loopw [5] (fun i wr => ∃ (k : Nat) (q : Int), k ≤ gs.length ∧ q = (k : Int) - 1 ∧ i = .int .i64 q ∧ (told gs k).length ≤ 9 * (gs.length - k) ∧ Lib.IsBuilder 90 5 w1.heap.size w1.heap.size (byteCells (told gs k)) wr ∧ Below w1.heap.size w1 wr) (fun i _ => (RowKit.intOf i + 1).toNat)
  case atStart => exact ⟨gs.length, _, Nat.le_refl _, rfl, rfl, by rw [told_end]; simp, by rw [told_end]; exact hf0, hb0⟩
  case round =>
    obtain ⟨k, q, hk, hq, rfl, hlen, hB, hnx⟩ := hrel
    have hsz := hnx.size
    by_cases hk0 : k = 0
    · subst hk0
      obtain rfl : q = -1 := by omega
      rw [told_zero HG.out] at hB hlen
      clear hq
      go_wp2_with fail
      refine (Tryd.Builder_String_any _ _ _ _ hB hsz).mono ?_
      rintro e w2 ⟨rfl, hb2⟩
      go_wp2
      go_ret
      exact ⟨rfl, hb1.trans ((hnx.trans hb2).mono hs1)⟩
    · obtain ⟨j, rfl⟩ : ∃ j, k = j + 1 := ⟨k - 1, by omega⟩
      obtain rfl : q = (j : Int) := by omega
      clear hq
      obtain ⟨bl, ol, rfl, hblt, hcx⟩ := fm.at hnx j (by omega)
      obtain ⟨x, hx⟩ : ∃ x, gs.getD j 0 = x := ⟨_, rfl⟩
      rw [hx] at hcx
      have bx : x < 1000000000 := by rw [← hx]; exact HG.out.2.2.1 _ (by simp [List.getD, show j < gs.length by omega])
      have HX : Hid (gs.getD j 0 = x) := hx
      clear hx
      have hd9 := dig_len bx
      go_wp2_with fail
      refine (fmt_any x (by omega) _ (htab1.below hnx)).mono ?_
      rintro e w2 ⟨rfl, hb2⟩
      have hB2 := built_below hB hb2
      have hnx2 : Below w1.heap.size w1 w2 := hnx.trans (hb2.mono hsz)
      have hsz2 := hnx2.size
      obtain ⟨s, hs⟩ : ∃ s : ByteArray, (⟨(decDigits x).toArray⟩ : ByteArray) = s := ⟨_, rfl⟩
      have hss : s.size = nDigits x := by rw [← hs, ← decDigits_length]; simp [ByteArray.size]
      have HSC : Hid (strCells s = byteCells (decDigits x)) := by show _ = _; rw [← hs]; rfl
      rw [hs]
      clear hs hB
      by_cases hjl : j + 1 < gs.length
      · obtain ⟨c, hc⟩ : ∃ c : Nat, c = 9 - nDigits x := ⟨_, rfl⟩
        have hci : (9 : Int) - (nDigits x : Int) = (c : Int) := by omega
        have hjc : (j : Int) < (gs.length : Int) - 1 := by omega
        have hc9 : c ≤ 9 := by omega
        have HC : Hid (c = 9 - nDigits x) := hc
        clear hc
        go_wp2_with fail
        refine (rep_any c hc9 _).mono ?_
        rintro e w3 ⟨z, rfl, hzs, hzc, hb3⟩
        have hB3 := built_below hB2 hb3
        have hnx3 : Below w1.heap.size w1 w3 := hnx2.trans (hb3.mono hsz2)
        have hsz3 := hnx3.size
        have HZC : Hid (strCells z = byteCells (List.replicate c 48)) := hzc
        clear hzc hB2
        go_wp2_with fail
        refine (writes_any _ _ _ z _ hB3 (by rw [byteCells_length, hzs]; omega) hsz3).mono ?_
        rintro e w4 ⟨rfl, hB4, hb4⟩
        have hnx4 : Below w1.heap.size w1 w4 := hnx3.trans hb4
        have hsz4 := hnx4.size
        rw [HZC.out, ← byteCells_append] at hB4
        clear hB3
        go_wp2_with fail
        refine (writes_any _ _ _ s _ (.inr hB4) (by rw [byteCells_length, hss, List.length_append, List.length_replicate]; omega) hsz4).mono ?_
        rintro e w5 ⟨rfl, hB5, hb5⟩
        have hnx5 : Below w1.heap.size w1 w5 := hnx4.trans hb5
        rw [HSC.out, ← byteCells_append, List.append_assoc, HC.out, ← told_step HG.out hjl HX.out] at hB5
        clear hB4
        go_wp2
        go_roundw
        case rel => exact ⟨j, _, by omega, rfl, rfl, by rw [told_step HG.out hjl HX.out]; simp [decDigits_length]; omega, .inr hB5, hnx5⟩
        case measure => simp [RowKit.intOf]
      · have hjc : ¬ (j : Int) < (gs.length : Int) - 1 := by omega
        have hje : j + 1 = gs.length := by omega
        go_wp2_with fail
        refine (writes_any _ _ _ s _ hB2 (by rw [byteCells_length, hss]; omega) hsz2).mono ?_
        rintro e w5 ⟨rfl, hB5, hb5⟩
        have hnx5 : Below w1.heap.size w1 w5 := hnx2.trans hb5
        rw [hje, told_end, HSC.out, ← byteCells_append, List.nil_append, ← told_top hje HX.out] at hB5
        clear hB2
        go_wp2
        go_roundw
        case rel => exact ⟨j, _, by omega, rfl, rfl, by rw [told_top hje HX.out, decDigits_length]; omega, .inr hB5, hnx5⟩
        case measure => simp [RowKit.intOf]

end Go.Proofs.YthoildjecoppgaaDoor

namespace Go.Proofs.YthoildjecoppgaaDoor
open Go.RowKit Go.Lib Classical
set_option linter.unusedSimpArgs false
set_option linter.unusedVariables false

/-- The chapter's text of a number. -/
def txt (q : Rat) : List UInt8 := (if q < 0 then [45] else []) ++ (decDigits q.num.natAbs ++ (if q.den = 1 then [] else 47 :: decDigits q.den))

theorem Fmd.lt_zero {n : Bool} {xs ys : List Nat} (h : Fmd n xs ys) : qv n xs ys < 0 ↔ n = true := by
  have key : 0 ≤ qv n xs ys ↔ 0 ≤ sg n (V xs) := by rw [← Rat.num_nonneg, h.parts.1]
  rw [← Rat.not_le, key]
  cases n with
  | false => simp [sg]
  | true =>
    have := h.neg rfl
    simp [sg]; omega

theorem txt_of {n : Bool} {xs ys : List Nat} (h : Fmd n xs ys) (ly : Lim ys) : txt (qv n xs ys) = (if n = true then [45] else []) ++ (decDigits (V xs) ++ (if ys = [1] then [] else 47 :: decDigits (V ys))) := by
  unfold txt
  rw [h.parts.1, h.parts.2, sg_natAbs]
  have e1 : (qv n xs ys < 0) = (n = true) := propext h.lt_zero
  have e2 : (V ys = 1) = (ys = [1]) := propext (V_eq_one ly h.2.1)
  simp only [e1, e2]

theorem digits_le : ∀ (k v : Nat), v < 2 ^ k → nDigits v ≤ k + 1 := by
  intro k
  induction k with
  | zero => intro v h; rw [nDigits_small (by omega)]; omega
  | succ k ih =>
    intro v h
    by_cases h1 : v < 10
    · rw [nDigits_small h1]; omega
    · rw [nDigits_big h1]
      have := ih (v / 10) (by rw [Nat.pow_succ] at h; omega)
      omega

/-- The digits of a natural, as a string of a size that is known. -/
theorem dec_str {xs : List Nat} (l : Lim xs) (h : xs.length ≤ 10000000) : ∃ s : ByteArray, (⟨(decDigits (V xs)).toArray⟩ : ByteArray) = s ∧ s.size ≤ 320000001 ∧ s.data.toList = decDigits (V xs) := by
  refine ⟨_, rfl, ?_, by simp⟩
  have h1 := V_lt l
  have e : 4294967296 ^ xs.length = 2 ^ (32 * xs.length) := by rw [Nat.pow_mul]
  rw [e] at h1
  have := digits_le _ _ h1
  rw [Lib.size_eq]
  simp [decDigits_length]
  omega

theorem ret_str {s : ByteArray} {l : List UInt8} (h : s.data.toList = l) : Ending.returned (.string s) = .returned (.string ⟨l.toArray⟩) := by
  subst h
  simp

set_option maxHeartbeats 2000000 in
set_option maxRecDepth 100000 in
theorem qtext_any (k : Nat) (q : Rat) (v : Value) (w : World) (h : Ct w v k q) (hk : k ≤ 10000000) (hk2 : 2 ≤ k) (htab : Pow w) :
    Calls Tryd.prog 16 #[v] w fun e w' => e = .returned (.string ⟨(txt q).toArray⟩) ∧ Below w.heap.size w w' := by
  have hX := h
  obtain ⟨n, xs, ys, ⟨a, c, a', c', rfl, hx, hy⟩, lx, ly, hq⟩ := h
  clear hq hx hy lx ly
  go_enter Tryd.func16, Tryd.ntmps16
  go_wp2_with fail
  refine (counted_any k q _ _ (hX.below (al1 _)) (by omega) hk2).mono ?_
  rintro e u1 ⟨v1, rfl, hF1, hb1⟩
  obtain ⟨B1, hbW⟩ := after1 hb1
  clear hb1 hX
  obtain ⟨p4, p5, p6, p7, p8, p9⟩ := B1.cells
  have hs2 := B1.lt
  obtain ⟨n1, x1, y1, ⟨b1, d1, b2, d2, rfl, hx', hy'⟩, hf1, l1, l2, he⟩ := hF1
  have HT : Hid (txt q = (if n1 = true then [45] else []) ++ (decDigits (V x1) ++ (if y1 = [1] then [] else 47 :: decDigits (V y1)))) := by
    show _ = _; rw [← he]; exact txt_of hf1 hy'.lim
  go_wp2_with fail
  obtain ⟨U, hU, B2, hbU, hK, ho⟩ := set3_world B1 (.bool n1) (.slice b1 x1.length d1) (.slice b2 y1.length d2)
  rw [← hU]
  clear hU p4 p5 p6 p7 p8 p9 hs2
  replace hbW := hbU _ _ hbW (by omega)
  replace hx' := hK _ _ _ hx'
  replace hy' := hK _ _ _ hy'
  clear B1 hbU hK ho
  refine (text_any _ _ _ _ hx' (by omega) (htab.below hbW)).mono ?_
  rintro e u2 ⟨rfl, hb2⟩
  replace B2 := B2.below hb2
  replace hy' := hy'.below hb2
  replace hbW : Below w.heap.size w u2 := hbW.trans (hb2.mono hbW.size)
  have lX1 := hx'.lim
  clear hb2 hx'
  obtain ⟨s1, e1, z1, t1⟩ := dec_str lX1 (by omega)
  obtain ⟨s2, e2, z2, t2⟩ := dec_str hy'.lim (by omega)
  rw [e1]
  rw [← t1, ← t2] at HT
  clear e1 t1 t2
  obtain ⟨p4, p5, p6, _⟩ := B2.cells
  cases n1 with
  | false =>
    go_wp2_with fail
    refine (isOne_any _ _ _ _ hy').mono ?_
    rintro e u ⟨rfl, rfl⟩
    by_cases h1 : y1 = [1]
    · have e1 : decide (y1 = [1]) = true := decide_eq_true h1
      rw [e1]
      clear e1
      go_wp2
      go_ret
      exact ⟨ret_str (by rw [HT.out, if_pos h1]; simp [ByteArray.data_append]), hbW⟩
    · have e1 : decide (y1 = [1]) = false := decide_eq_false h1
      rw [e1]
      clear e1
      go_wp2_with fail
      refine (text_any _ _ _ _ hy' (by omega) (htab.below hbW)).mono ?_
      rintro e u3 ⟨rfl, hb3⟩
      rw [e2]
      replace hbW : Below w.heap.size w u3 := hbW.trans (hb3.mono hbW.size)
      clear hb3 p4 p5 p6
      go_wp2
      go_ret
      exact ⟨ret_str (by rw [HT.out, if_neg h1]; simp [ByteArray.data_append]), hbW⟩
  | true =>
    go_wp2_with fail
    refine (isOne_any _ _ _ _ hy').mono ?_
    rintro e u ⟨rfl, rfl⟩
    by_cases h1 : y1 = [1]
    · have e1 : decide (y1 = [1]) = true := decide_eq_true h1
      rw [e1]
      clear e1
      go_wp2
      go_ret
      exact ⟨ret_str (by rw [HT.out, if_pos h1]; simp [ByteArray.data_append]), hbW⟩
    · have e1 : decide (y1 = [1]) = false := decide_eq_false h1
      rw [e1]
      clear e1
      go_wp2_with fail
      refine (text_any _ _ _ _ hy' (by omega) (htab.below hbW)).mono ?_
      rintro e u3 ⟨rfl, hb3⟩
      rw [e2]
      replace hbW : Below w.heap.size w u3 := hbW.trans (hb3.mono hbW.size)
      clear hb3 p4 p5 p6
      go_wp2
      go_ret
      exact ⟨ret_str (by rw [HT.out, if_neg h1]; simp [ByteArray.data_append]), hbW⟩

end Go.Proofs.YthoildjecoppgaaDoor

namespace Go.Proofs.YthoildjecoppgaaDoor
open Go.RowKit
set_option linter.unusedSimpArgs false
set_option linter.unusedVariables false

/-- A fraction lies in block b of U; all else is as it was in u. -/
def Sto (t : TypeId) (u U : World) (b : Nat) (x y z : Value) : Prop :=
  Box t U b x y z ∧ (∀ B w, Below B w u → B ≤ b → Below B w U) ∧ (∀ a c xs, Rd u a c xs → Rd U a c xs) ∧ (∀ t' k x y z, k ≠ b → Box t' u k x y z → Box t' U k x y z)
theorem sto_set {t : TypeId} {u : World} {b : Nat} {n : Bool} {a a' : Option Addr} {l c l' c' : Nat} (B : Box t u b (.bool n) (.slice a l c) (.slice a' l' c')) (x' y' z' : Value) :
    Sto t u (((u.setCell ⟨b, 0, none⟩ x').setCell ⟨b, 1, none⟩ y').setCell ⟨b, 2, none⟩ z') b x' y' z' := by
  obtain ⟨U, rfl, h1, h2, h3, h4⟩ := set3_world B x' y' z'
  exact ⟨h1, h2, h3, fun _ _ _ _ _ hk hB => hB.other h4 hk⟩
theorem sto_new (t : TypeId) (u : World) (x y z : Value) : Sto t u (u.alloc (.cells #[x, y, z] t)) u.heap.size x y z :=
  ⟨Box.new _ _ _ _ _, fun _ _ h hb => h.alloc hb _, fun _ _ _ h => h.below (al1 _), fun _ _ _ _ _ _ hB => hB.alloc _⟩
theorem Ct.sto {t : TypeId} {u U : World} {b : Nat} {x y z v : Value} {k : Nat} {q : Rat} (h : Ct u v k q) (s : Sto t u U b x y z) : Ct U v k q := by
  obtain ⟨n0, x0, y0, ⟨e1, e2, e3, e4, e5, e6, e7⟩, e8⟩ := h
  exact ⟨n0, x0, y0, ⟨e1, e2, e3, e4, e5, s.2.2.1 _ _ _ e6, s.2.2.1 _ _ _ e7⟩, e8⟩
theorem after1d {t : TypeId} {w u : World} {x y z : Value} (hb : Below (w.alloc (.cells #[x, y, z] t)).drew.heap.size (w.alloc (.cells #[x, y, z] t)).drew u) :
    Box t u w.heap.size x y z ∧ Below w.heap.size w u := after1 (Below.drew1.trans hb)
theorem al1d {w : World} (o : Obj) : Below w.heap.size w (w.alloc o).drew := (al1 o).drew
theorem al2d {w : World} (o o' : Obj) : Below w.heap.size w ((w.alloc o).alloc o').drew := (al2 o o').drew

/-- How far a statement has come (a mark for the walk). -/
def Stg (n : Nat) : Prop := n = n

theorem awake_round : ((5 : Rat) / 2 + 1 / 2).floor = 3 := by decide +kernel
theorem awake_text : txt ((6 : Rat) / ((-4 : Int) : Rat)) = [45, 51, 47, 50] := by decide +kernel
end Go.Proofs.YthoildjecoppgaaDoor

namespace Go.Proofs.YthoildjecoppgaaDoor
open Go.RowKit
set_option linter.unusedSimpArgs false
set_option linter.unusedVariables false

/-- Whether a number is a coordinate. -/
def crd (z : Int) : Bool := decide (-16384 ≤ z ∧ z ≤ 16384)
/-- A number, brought to the coordinates. -/
def c14 (z : Int) : Int := if z < -16384 then -16384 else if 16384 < z then 16384 else z
/-- A fraction's coordinate. -/
def to14 (q : Rat) : Int := c14 (q * 16384 + 1 / 2).floor
/-- A number that is a field; else 0. -/
def fldN (z : Int) : Int := if -32768 ≤ z ∧ z ≤ 32767 then z else 0
/-- The error of a number that isn't. -/
def fldE (z : Int) : Int := if -32768 ≤ z ∧ z ≤ 32767 then 0 else 4
/-- Brought to least first, then to most. -/
def clp (n a b : Int) : Int := if b < (if n < a then a else n) then b else (if n < a then a else n)

theorem ret_two2 {a b c d : Int} (h : a = b) (k : c = d) : Ending.returned (.tuple #[.int .i64 a, .int .i64 c]) = .returned (.tuple #[.int .i64 b, .int .i64 d]) := by rw [h, k]
theorem ret_num {a b : Int} (h : a = b) : Ending.returned (.int .i64 a) = .returned (.int .i64 b) := by rw [h]

theorem wrap_i16 (z : Int) : IntKind.i16.wrap z = if 32768 ≤ z % 65536 then z % 65536 - 65536 else z % 65536 := by
  simp [IntKind.wrap, IntKind.bits, IntKind.signed]

end Go.Proofs.YthoildjecoppgaaDoor

namespace Go.Proofs.YthoildjecoppgaaDoor
open Go.RowKit
set_option linter.unusedSimpArgs false
set_option linter.unusedVariables false

theorem c14_big {q : Rat} {z : Int} (hz : (q * 16384 + 1 / 2).floor = z) (h : flB z = false) : c14 z = 16384 * sgnQ q := by
  have h1 : ¬ (-9223372036854775808 ≤ z ∧ z < 9223372036854775808) := by unfold flB at h; simpa using h
  have f1 := Rat.floor_le (q * 16384 + 1 / 2)
  have f2 := Rat.lt_floor (x := q * 16384 + 1 / 2)
  rw [hz] at f1 f2
  by_cases h2 : z < 0
  · have h3 : z ≤ -2 := by omega
    have hq : q < 0 := by
      have h4 : ((z : Int) : Rat) ≤ ((-2 : Int) : Rat) := Rat.intCast_le_intCast.2 h3
      grind
    have h0 : q ≠ 0 := by grind
    unfold sgnQ c14
    rw [if_neg h0, if_pos hq, if_pos (by omega)]
    rfl
  · have h3 : 2 ≤ z := by omega
    have hq : ¬ q < 0 := by
      have h4 : ((2 : Int) : Rat) ≤ ((z : Int) : Rat) := Rat.intCast_le_intCast.2 h3
      grind
    have h0 : q ≠ 0 := by
      have h4 : ((2 : Int) : Rat) ≤ ((z : Int) : Rat) := Rat.intCast_le_intCast.2 h3
      grind
    unfold sgnQ c14
    rw [if_neg h0, if_neg hq, if_neg (by omega), if_pos (by omega)]
    rfl

/-- A number that Between takes. -/
def nr (z : Int) : Bool := decide (-1099511627776 ≤ z ∧ z ≤ 1099511627776)

set_option maxHeartbeats 1000000 in
set_option maxRecDepth 100000 in
theorem near_any (b : Nat) (zs : List Int) (w : World) (hl : zs.length ≤ 4) (hc : ∀ i, i < zs.length → w.cell? ⟨b, i, none⟩ = some (.int .i64 (zs.getD i 0))) :
    Calls Tryd.prog 62 #[.slice (some ⟨b, 0, none⟩) zs.length 4] w fun e w' => e = .returned (.bool (zs.all nr)) ∧ w = w' := by
  have HC : Hid (∀ i, i < zs.length → w.cell? ⟨b, i, none⟩ = some (.int .i64 (zs.getD i 0))) := hc
  clear hc
  go_enter Tryd.func62, Tryd.ntmps62
  go_wp2
  go_loop [7] (fun i => ∃ k : Nat, k ≤ zs.length ∧ i = .int .i64 k ∧ (∀ j, j < k → nr (zs.getD j 0) = true)) (fun i => zs.length - (intOf i).toNat)
  case atStart => exact ⟨0, Nat.zero_le _, rfl, fun j hj => by omega⟩
  case round =>
    obtain ⟨k, hk, rfl, hal⟩ := hrel
    have HA : Hid (∀ j, j < k → nr (zs.getD j 0) = true) := hal
    clear hal
    by_cases hkn : k < zs.length
    · have c1 := HC.out k hkn
      obtain ⟨x, hx⟩ : ∃ x, zs.getD k 0 = x := ⟨_, rfl⟩
      rw [hx] at c1
      have HX : Hid (zs.getD k 0 = x) := hx
      clear hx
      have hm : x ∈ zs := by
        have := HX.out
        rw [List.getD_eq_getElem?_getD, List.getElem?_eq_getElem hkn] at this
        simp at this
        exact this ▸ List.getElem_mem hkn
      by_cases h1 : x < -1099511627776
      · go_wp2
        go_ret
        exact ⟨ret_bool (by
          symm
          rw [List.all_eq_false]
          exact ⟨x, hm, by simp [nr]; omega⟩), rfl⟩
      · by_cases h2 : 1099511627776 < x
        · go_wp2
          go_ret
          exact ⟨ret_bool (by
            symm
            rw [List.all_eq_false]
            exact ⟨x, hm, by simp [nr]; omega⟩), rfl⟩
        · go_wp2
          go_round
          case rel => exact ⟨k + 1, by omega, by go_num, fun j hj => by
            rcases Nat.lt_or_ge j k with h | h
            · exact HA.out j h
            · have : j = k := by omega
              subst this
              rw [HX.out]
              simp [nr]
              omega⟩
          case measure => simp [intOf]; omega
    · obtain rfl : k = zs.length := by omega
      go_wp2
      go_ret
      exact ⟨ret_bool (by
        symm
        rw [List.all_eq_true]
        intro x hx
        obtain ⟨j, hj, rfl⟩ := List.getElem_of_mem hx
        have := HA.out j hj
        rwa [List.getD_eq_getElem?_getD, List.getElem?_eq_getElem hj] at this), rfl⟩

end Go.Proofs.YthoildjecoppgaaDoor
