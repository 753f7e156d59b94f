/-
  foundryref01.Same, foundryref02.Same, foundrylaw02.plain, same, few, awake: the walks.
-/
import Derived.Test.YtefdkajjdaplbabDoorQ6
import Derived.Test.YtefdkajjdaplbabDoorQ7
import Derived.Test.YtefdkajjdaplbabDoorQ8
import Derived.Deep.QuietTactic
import Derived.BigQuiet
import Derived.Outline
namespace Go.Proofs.YtefdkajjdaplbabDoor
open Go.RowKit
set_option linter.unusedSimpArgs false
set_option linter.unusedVariables false

/-- A fraction lies in block b of U; all else is as it was in u. -/
def Sto (t : TypeId) (u U : World) (b : Nat) (x y z : Value) : Prop :=
  Box t U b x y z ∧ (∀ B w, Below B w u → B ≤ b → Below B w U) ∧ (∀ a c xs, Rd u a c xs → Rd U a c xs) ∧ (∀ t' k x y z, k ≠ b → Box t' u k x y z → Box t' U k x y z)
theorem sto_set {t : TypeId} {u : World} {b : Nat} {n : Bool} {a a' : Option Addr} {l c l' c' : Nat} (B : Box t u b (.bool n) (.slice a l c) (.slice a' l' c')) (x' y' z' : Value) :
    Sto t u (((u.setCell ⟨b, 0, none⟩ x').setCell ⟨b, 1, none⟩ y').setCell ⟨b, 2, none⟩ z') b x' y' z' := by
  obtain ⟨U, rfl, h1, h2, h3, h4⟩ := set3_world B x' y' z'
  exact ⟨h1, h2, h3, fun _ _ _ _ _ hk hB => hB.other h4 hk⟩
theorem sto_new (t : TypeId) (u : World) (x y z : Value) : Sto t u (u.alloc (.cells #[x, y, z] t)) u.heap.size x y z :=
  ⟨Box.new _ _ _ _ _, fun _ _ h hb => h.alloc hb _, fun _ _ _ h => h.below (al1 _), fun _ _ _ _ _ _ hB => hB.alloc _⟩
theorem Ct.sto {t : TypeId} {u U : World} {b : Nat} {x y z v : Value} {k : Nat} {q : Rat} (h : Ct u v k q) (s : Sto t u U b x y z) : Ct U v k q := by
  obtain ⟨n0, x0, y0, ⟨e1, e2, e3, e4, e5, e6, e7⟩, e8⟩ := h
  exact ⟨n0, x0, y0, ⟨e1, e2, e3, e4, e5, s.2.2.1 _ _ _ e6, s.2.2.1 _ _ _ e7⟩, e8⟩
theorem after1d {t : TypeId} {w u : World} {x y z : Value} (hb : Below (w.alloc (.cells #[x, y, z] t)).drew.heap.size (w.alloc (.cells #[x, y, z] t)).drew u) :
    Box t u w.heap.size x y z ∧ Below w.heap.size w u := after1 (Below.drew1.trans hb)
theorem al1d {w : World} (o : Obj) : Below w.heap.size w (w.alloc o).drew := (al1 o).drew
theorem al2d {w : World} (o o' : Obj) : Below w.heap.size w ((w.alloc o).alloc o').drew := (al2 o o').drew

/-- How far a statement has come (a mark for the walk). -/
def Stg (n : Nat) : Prop := n = n

theorem awake_round : ((5 : Rat) / 2 + 1 / 2).floor = 3 := by decide +kernel
theorem awake_text : txt ((6 : Rat) / ((-4 : Int) : Rat)) = [45, 51, 47, 50] := by decide +kernel
set_option maxHeartbeats 1000000 in
/-- foundrylaw02.awake. -/
theorem awake2_any (w : World) (htab : Pow w) :
    Calls Tryd.prog 4 #[] w fun e w' => e = .returned (.bool true) ∧ Below w.heap.size w w' := by
  go_enter Tryd.func4, Tryd.ntmps4
  go_wp2_with fail
  refine (make_any 5 2 _ (by decide) (by decide) (by decide) (by decide)).mono ?_
  rintro e u1 ⟨v1, rfl, hF1, hb1⟩
  go_wp2_with fail
  refine (qround_any 2 _ _ _ hF1.ct (by decide) (by decide)).mono ?_
  rintro e u2 ⟨rfl, hb2⟩
  have hbW : Below w.heap.size w u2 := hb1.trans (hb2.mono hb1.size)
  have e1 : (((5 : Int) : Rat) / ((2 : Int) : Rat) + 1 / 2).floor = 3 := awake_round
  rw [e1, show flN 3 = 3 from rfl, show flB 3 = true from rfl]
  clear hb1 hb2 hF1 e1
  go_wp2_with fail
  refine (make_any 6 (-4) _ (by decide) (by decide) (by decide) (by decide)).mono ?_
  rintro e u3 ⟨v3, rfl, hF3, hb3⟩
  replace hbW : Below w.heap.size w u3 := hbW.trans (hb3.mono hbW.size)
  clear hb3
  go_wp2_with fail
  refine (qtext_any 2 _ _ _ hF3.ct (by decide) (by decide) (htab.below hbW)).mono ?_
  rintro e u4 ⟨rfl, hb4⟩
  replace hbW : Below w.heap.size w u4 := hbW.trans (hb4.mono hbW.size)
  have e2 : txt (((6 : Int) : Rat) / ((-4 : Int) : Rat)) = [45, 51, 47, 50] := awake_text
  rw [e2]
  clear hb4 e2 hF3
  go_wp2
  go_ret
  exact ⟨rfl, hbW⟩

end Go.Proofs.YtefdkajjdaplbabDoor
