/-
  foundryref01.Same, foundryref02.Same, foundrylaw02.plain, same, few, awake: the walks.
-/
import Derived.Test.YtefdkajjdaplbaaDoorQ6
import Derived.Test.YtefdkajjdaplbaaDoorQ7
import Derived.Test.YtefdkajjdaplbaaDoorQ8
import Derived.Deep.QuietTactic
import Derived.BigQuiet
import Derived.Outline
namespace Go.Proofs.YtefdkajjdaplbaaDoor
open Go.RowKit
set_option linter.unusedSimpArgs false
set_option linter.unusedVariables false

/-- A fraction lies in block b of U; all else is as it was in u. -/
def Sto (t : TypeId) (u U : World) (b : Nat) (x y z : Value) : Prop :=
  Box t U b x y z ∧ (∀ B w, Below B w u → B ≤ b → Below B w U) ∧ (∀ a c xs, Rd u a c xs → Rd U a c xs) ∧ (∀ t' k x y z, k ≠ b → Box t' u k x y z → Box t' U k x y z)
theorem sto_set {t : TypeId} {u : World} {b : Nat} {n : Bool} {a a' : Option Addr} {l c l' c' : Nat} (B : Box t u b (.bool n) (.slice a l c) (.slice a' l' c')) (x' y' z' : Value) :
    Sto t u (((u.setCell ⟨b, 0, none⟩ x').setCell ⟨b, 1, none⟩ y').setCell ⟨b, 2, none⟩ z') b x' y' z' := by
  obtain ⟨U, rfl, h1, h2, h3, h4⟩ := set3_world B x' y' z'
  exact ⟨h1, h2, h3, fun _ _ _ _ _ hk hB => hB.other h4 hk⟩
theorem sto_new (t : TypeId) (u : World) (x y z : Value) : Sto t u (u.alloc (.cells #[x, y, z] t)) u.heap.size x y z :=
  ⟨Box.new _ _ _ _ _, fun _ _ h hb => h.alloc hb _, fun _ _ _ h => h.below (al1 _), fun _ _ _ _ _ _ hB => hB.alloc _⟩
theorem Ct.sto {t : TypeId} {u U : World} {b : Nat} {x y z v : Value} {k : Nat} {q : Rat} (h : Ct u v k q) (s : Sto t u U b x y z) : Ct U v k q := by
  obtain ⟨n0, x0, y0, ⟨e1, e2, e3, e4, e5, e6, e7⟩, e8⟩ := h
  exact ⟨n0, x0, y0, ⟨e1, e2, e3, e4, e5, s.2.2.1 _ _ _ e6, s.2.2.1 _ _ _ e7⟩, e8⟩
theorem after1d {t : TypeId} {w u : World} {x y z : Value} (hb : Below (w.alloc (.cells #[x, y, z] t)).drew.heap.size (w.alloc (.cells #[x, y, z] t)).drew u) :
    Box t u w.heap.size x y z ∧ Below w.heap.size w u := after1 (Below.drew1.trans hb)
theorem al1d {w : World} (o : Obj) : Below w.heap.size w (w.alloc o).drew := (al1 o).drew
theorem al2d {w : World} (o o' : Obj) : Below w.heap.size w ((w.alloc o).alloc o').drew := (al2 o o').drew

/-- How far a statement has come (a mark for the walk). -/
def Stg (n : Nat) : Prop := n = n

set_option maxHeartbeats 1000000 in
set_option maxRecDepth 100000 in
/-- foundryref01.Same, of whatever two lists. -/
theorem alike_any (a b : Option Addr) (ca cb : Nat) (xs ys : List Nat) (w : World) (ha : Rd w a ca xs) (hb : Rd w b cb ys) :
    Calls Tryd.prog 71 #[.slice a xs.length ca, .slice b ys.length cb] w fun e w' => e = .returned (.bool (decide (xs = ys))) ∧ Below w.heap.size w w' := by
  have fa := ha.fm
  have fb := hb.fm
  have k1 := ha.le
  have k2 := ha.cap
  have k3 := hb.le
  have k4 := hb.cap
  unfold maxLen at k2 k4
  by_cases hl : xs.length = ys.length
  · have HL : Hid (xs.length = ys.length) := hl
    rw [← hl]
    rw [← hl] at k3
    have fb' : ∀ (wr : World), Below w.heap.size w wr → ∀ k, k < xs.length → ∃ bb off, b = some ⟨bb, off, none⟩ ∧ bb < w.heap.size ∧ wr.cell? ⟨bb, off + k, none⟩ = some (.int .u32 (ys.getD k 0 : Nat)) := fun wr hw k hk => fb.at hw k (by omega)
    clear hl ha hb fb
    go_enter Tryd.func71, Tryd.ntmps71
    go_wp2
    go_loopw [5] (fun i wr => ∃ k : Nat, k ≤ xs.length ∧ i = .int .i64 k ∧ (∀ j, j < k → xs.getD j 0 = ys.getD j 0) ∧ Below w.heap.size w wr) (fun i _ => xs.length - (intOf i).toNat)
    case atStart => exact ⟨0, Nat.zero_le _, rfl, fun j hj => by omega, Below.refl _ _⟩
    case round =>
      obtain ⟨k, hk, rfl, hal, hnx⟩ := hrel
      have HA : Hid (∀ j, j < k → xs.getD j 0 = ys.getD j 0) := hal
      clear hal
      by_cases hkn : k < xs.length
      · obtain ⟨b1, o1, rfl, _, c1⟩ := fa.at hnx k hkn
        obtain ⟨b2, o2, rfl, _, c2⟩ := fb' _ hnx k hkn
        obtain ⟨x, hx⟩ : ∃ x, xs.getD k 0 = x := ⟨_, rfl⟩
        obtain ⟨y, hy⟩ : ∃ y, ys.getD k 0 = y := ⟨_, rfl⟩
        rw [hx] at c1
        rw [hy] at c2
        have HX : Hid (xs.getD k 0 = x) := hx
        have HY : Hid (ys.getD k 0 = y) := hy
        clear hx hy
        go_wp2_with fail
        go_quiet (fail)
        by_cases hxy : x = y
        · subst hxy
          go_wp2
          go_roundw
          case rel => exact ⟨k + 1, by omega, by go_num, fun j hj => by
            rcases Nat.lt_or_ge j k with h | h
            · exact HA.out j h
            · have : j = k := by omega
              subst this
              rw [HX.out, HY.out], below_drewN hnx _⟩
          case measure => simp [intOf]; omega
        · have hne : ((x : Int) != (y : Int)) = true := by simp; omega
          go_wp2
          go_ret
          exact ⟨ret_bool (by
            have : xs ≠ ys := by
              intro e
              have h1 := HX.out
              rw [e, HY.out] at h1
              exact hxy h1.symm
            simp [this]), below_drewN hnx _⟩
      · obtain rfl : k = xs.length := by omega
        go_wp2
        go_ret
        exact ⟨ret_bool (by
          have : xs = ys := List.ext_getElem HL.out fun j h1 h2 => by
            have := HA.out j h1
            simpa [List.getD, h1, h2] using this
          simp [this]), hnx⟩
  · have hne : ((xs.length : Int) != (ys.length : Int)) = true := by simp; omega
    have hx : xs ≠ ys := fun e => hl (by rw [e])
    clear ha hb fa fb
    go_enter Tryd.func71, Tryd.ntmps71
    go_wp2
    go_ret
    exact ⟨ret_bool (by simp [hx]), Below.refl _ _⟩

set_option maxHeartbeats 1000000 in
/-- foundryref02.Same. -/
theorem alike2_any (n m : Bool) (a a' b b' : Option Addr) (c c' d d' : Nat) (xs ys ps qs : List Nat) (w : World) (hx : Rd w a c xs) (hy : Rd w a' c' ys) (hp : Rd w b d ps) (hq : Rd w b' d' qs) :
    Calls Tryd.prog 47 #[.agg #[.bool n, .slice a xs.length c, .slice a' ys.length c'], .agg #[.bool m, .slice b ps.length d, .slice b' qs.length d']] w fun e w' => e = .returned (.bool (decide (n = m ∧ xs = ps ∧ ys = qs))) ∧ Below w.heap.size w w' := by
  by_cases hnm : n = m
  · subst hnm
    have e0 : (n == n) = true := by simp
    go_enter Tryd.func47, Tryd.ntmps47
    go_wp2_with fail
    refine (alike_any _ _ _ _ _ _ _ (hx.below (al2 _ _)) (hp.below (al2 _ _))).mono ?_
    rintro e u1 ⟨rfl, hb1⟩
    replace hy := (hy.below (al2 _ _)).below hb1
    replace hq := (hq.below (al2 _ _)).below hb1
    obtain ⟨B1, B2, hbW⟩ := after2 hb1
    obtain ⟨p1, p2, p3, _⟩ := B1.cells
    obtain ⟨p4, p5, p6, _⟩ := B2.cells
    clear hb1
    by_cases hxp : xs = ps
    · have e1 : decide (xs = ps) = true := decide_eq_true hxp
      have HX : Hid (xs = ps) := hxp
      clear hxp
      rw [e1]
      clear e1
      go_wp2_with fail
      refine (alike_any _ _ _ _ _ _ _ hy hq).mono ?_
      rintro e u2 ⟨rfl, hb2⟩
      replace hbW : Below w.heap.size w u2 := hbW.trans (hb2.mono hbW.size)
      go_wp2
      go_ret
      exact ⟨ret_bool (by simp [HX.out]), hbW⟩
    · have e1 : decide (xs = ps) = false := decide_eq_false hxp
      have HX : Hid (¬ xs = ps) := hxp
      clear hxp
      rw [e1]
      clear e1
      go_wp2
      go_ret
      exact ⟨ret_bool (by simp [HX.out]), hbW⟩
  · have e0 : (n == m) = false := by simpa using hnm
    go_enter Tryd.func47, Tryd.ntmps47
    go_wp2
    go_ret
    exact ⟨ret_bool (by simp [hnm]), al2 _ _⟩

set_option maxHeartbeats 1000000 in
/-- foundrylaw02.plain: the same value. -/
theorem plain2_any (n : Bool) (a a' : Option Addr) (c c' : Nat) (xs ys : List Nat) (w : World) (hx : Rd w a c xs) (hy : Rd w a' c' ys) :
    Calls Tryd.prog 21 #[.agg #[.bool n, .slice a xs.length c, .slice a' ys.length c']] w fun e w' => e = .returned (.agg #[.bool n, .slice a xs.length c, .slice a' ys.length c']) ∧ Below w.heap.size w w' := by
  go_enter Tryd.func21, Tryd.ntmps21
  go_wp2
  exact bodyPost_ret (v := .agg #[.bool n, .slice a xs.length c, .slice a' ys.length c']) (by simp [results, Tryd.results21, go_sem]) rfl ⟨rfl, al2 _ _⟩

set_option maxHeartbeats 1000000 in
/-- foundrylaw02.same. -/
theorem same2_any (n m : Bool) (a a' b b' : Option Addr) (c c' d d' : Nat) (xs ys ps qs : List Nat) (w : World) (hx : Rd w a c xs) (hy : Rd w a' c' ys) (hp : Rd w b d ps) (hq : Rd w b' d' qs) :
    Calls Tryd.prog 20 #[.agg #[.bool n, .slice a xs.length c, .slice a' ys.length c'], .agg #[.bool m, .slice b ps.length d, .slice b' qs.length d']] w fun e w' => e = .returned (.bool (decide (n = m ∧ xs = ps ∧ ys = qs))) ∧ Below w.heap.size w w' := by
  go_enter Tryd.func20, Tryd.ntmps20
  go_wp2_with fail
  obtain ⟨W, hW, B1, B2, hbW⟩ := boxes2 30 42 w (.bool n) (.slice a xs.length c) (.slice a' ys.length c') (.bool m) (.slice b ps.length d) (.slice b' qs.length d')
  rw [← hW]
  clear hW
  replace hx := hx.below hbW
  replace hy := hy.below hbW
  replace hp := hp.below hbW
  replace hq := hq.below hbW
  obtain ⟨p1, p2, p3, _⟩ := B1.cells
  obtain ⟨p4, p5, p6, _⟩ := B2.cells
  go_region_held3 (fun u => u.cell? ⟨w.heap.size, 0, none⟩ = some (.bool n) ∧ u.cell? ⟨w.heap.size, 1, none⟩ = some (.slice a xs.length c) ∧ u.cell? ⟨w.heap.size, 2, none⟩ = some (.slice a' ys.length c') ∧ u.cell? ⟨w.heap.size + 1, 0, none⟩ = some (.bool m) ∧ u.cell? ⟨w.heap.size + 1, 1, none⟩ = some (.slice b ps.length d) ∧ u.cell? ⟨w.heap.size + 1, 2, none⟩ = some (.slice b' qs.length d')) (go_keep)
    (first
      | (go_at_call 21
         refine (plain2_any _ _ _ _ _ _ _ _ (hx.below Below.drew1) (hy.below Below.drew1)).mono ?_
         rintro e u1 ⟨rfl, hb1⟩
         replace hb1 : Below W.heap.size W u1 := Below.drew1.trans hb1
         replace hx := hx.below hb1
         replace hy := hy.below hb1
         replace hp := hp.below hb1
         replace hq := hq.below hb1
         replace B1 := B1.below hb1
         replace B2 := B2.below hb1
         replace hbW : Below w.heap.size w u1 := hbW.trans (hb1.mono hbW.size)
         clear hb1 p1 p2 p3 p4 p5 p6
         obtain ⟨p1, p2, p3, _⟩ := B1.cells
         obtain ⟨p4, p5, p6, _⟩ := B2.cells)
      | (go_at_call 47
         refine (alike2_any _ _ _ _ _ _ _ _ _ _ _ _ _ _ _ hx hy hp hq).mono ?_
         rintro e u2 ⟨rfl, hb2⟩
         replace B1 := B1.below hb2
         replace B2 := B2.below hb2
         replace hbW : Below w.heap.size w u2 := hbW.trans (hb2.mono hbW.size)
         clear hb2 p1 p2 p3 p4 p5 p6
         obtain ⟨p1, p2, p3, _⟩ := B1.cells
         obtain ⟨p4, p5, p6, _⟩ := B2.cells))
  go_wp2
  go_ret
  exact ⟨ret_bool (by simp), hbW⟩

set_option maxHeartbeats 1000000 in
/-- foundrylaw02.few. -/
theorem few2_any (n m : Bool) (a a' b b' : Option Addr) (c c' d d' i j k l : Nat) (w : World) (hi : i ≤ 9223372036854775807) (hj : j ≤ 9223372036854775807) (hk : k ≤ 9223372036854775807) (hl : l ≤ 9223372036854775807) :
    Calls Tryd.prog 12 #[.agg #[.bool n, .slice a i c, .slice a' j c'], .agg #[.bool m, .slice b k d, .slice b' l d']] w fun e w' => e = .returned (.bool (decide (i ≤ 4 ∧ j ≤ 4 ∧ k ≤ 4 ∧ l ≤ 4))) ∧ Below w.heap.size w w' := by
  by_cases h1 : i ≤ 4
  · by_cases h2 : j ≤ 4
    · by_cases h3 : k ≤ 4
      · have g1 : (i : Int) ≤ 4 := by omega
        have g2 : (j : Int) ≤ 4 := by omega
        have g3 : (k : Int) ≤ 4 := by omega
        go_enter Tryd.func12, Tryd.ntmps12
        go_wp2
        go_ret
        exact ⟨ret_bool (by simp [h1, h2, h3]; try omega), al2 _ _⟩
      · have g1 : (i : Int) ≤ 4 := by omega
        have g2 : (j : Int) ≤ 4 := by omega
        have g3 : ¬ (k : Int) ≤ 4 := by omega
        go_enter Tryd.func12, Tryd.ntmps12
        go_wp2
        go_ret
        exact ⟨ret_bool (by simp [h1, h2, h3]; try omega), al2 _ _⟩
    · have g1 : (i : Int) ≤ 4 := by omega
      have g2 : ¬ (j : Int) ≤ 4 := by omega
      go_enter Tryd.func12, Tryd.ntmps12
      go_wp2
      go_ret
      exact ⟨ret_bool (by simp [h1, h2]; try omega), al2 _ _⟩
  · have g1 : ¬ (i : Int) ≤ 4 := by omega
    go_enter Tryd.func12, Tryd.ntmps12
    go_wp2
    go_ret
    exact ⟨ret_bool (by simp [h1]; try omega), al2 _ _⟩

theorem awake_round : ((5 : Rat) / 2 + 1 / 2).floor = 3 := by decide +kernel
theorem awake_text : txt ((6 : Rat) / ((-4 : Int) : Rat)) = [45, 51, 47, 50] := by decide +kernel
set_option maxHeartbeats 1000000 in
/-- foundrylaw02.awake. -/
theorem awake2_any (w : World) (htab : Pow w) :
    Calls Tryd.prog 11 #[] w fun e w' => e = .returned (.bool true) ∧ Below w.heap.size w w' := by
  go_enter Tryd.func11, Tryd.ntmps11
  go_wp2_with fail
  refine (make_any 5 2 _ (by decide) (by decide) (by decide) (by decide)).mono ?_
  rintro e u1 ⟨v1, rfl, hF1, hb1⟩
  go_wp2_with fail
  refine (qround_any 2 _ _ _ hF1.ct (by decide) (by decide)).mono ?_
  rintro e u2 ⟨rfl, hb2⟩
  have hbW : Below w.heap.size w u2 := hb1.trans (hb2.mono hb1.size)
  have e1 : (((5 : Int) : Rat) / ((2 : Int) : Rat) + 1 / 2).floor = 3 := awake_round
  rw [e1, show flN 3 = 3 from rfl, show flB 3 = true from rfl]
  clear hb1 hb2 hF1 e1
  go_wp2_with fail
  refine (make_any 6 (-4) _ (by decide) (by decide) (by decide) (by decide)).mono ?_
  rintro e u3 ⟨v3, rfl, hF3, hb3⟩
  replace hbW : Below w.heap.size w u3 := hbW.trans (hb3.mono hbW.size)
  clear hb3
  go_wp2_with fail
  refine (qtext_any 2 _ _ _ hF3.ct (by decide) (by decide) (htab.below hbW)).mono ?_
  rintro e u4 ⟨rfl, hb4⟩
  replace hbW : Below w.heap.size w u4 := hbW.trans (hb4.mono hbW.size)
  have e2 : txt (((6 : Int) : Rat) / ((-4 : Int) : Rat)) = [45, 51, 47, 50] := awake_text
  rw [e2]
  clear hb4 e2 hF3
  go_wp2
  go_ret
  exact ⟨rfl, hbW⟩

end Go.Proofs.YtefdkajjdaplbaaDoor
