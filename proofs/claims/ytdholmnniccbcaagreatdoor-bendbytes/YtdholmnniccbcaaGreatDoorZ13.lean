/-
  For foundrylaw02.RatioOnce: two sums in two new blocks; texts tell numbers apart.
-/
import Derived.Test.YtdholmnniccbcaaGreatDoorZ9
namespace Go.Proofs.YtdholmnniccbcaaGreatDoor
open Go.RowKit Go.Lib Classical
set_option linter.unusedSimpArgs false
set_option linter.unusedVariables false

theorem cell_alloc1 {u : World} {o : Obj} {k i : Nat} (hk : k < u.heap.size) : (u.alloc o).cell? ⟨k, i, none⟩ = u.cell? ⟨k, i, none⟩ :=
  World.cell?_of_block (w := u) (a := ⟨k, i, none⟩) (Below.heap_alloc _ _ _ hk)
theorem cell_alloc2 {u : World} {o o' : Obj} {k i : Nat} (hk : k < u.heap.size) : ((u.alloc o).alloc o').cell? ⟨k, i, none⟩ = u.cell? ⟨k, i, none⟩ :=
  (cell_alloc1 (by simp; omega)).trans (cell_alloc1 hk)
theorem cell_s2 {u : World} {b b' : Nat} {x y z x' y' z' : Value} {k i : Nat} (hk : k ≠ b) (hk' : k ≠ b') :
    ((((((u.setCell ⟨b, 0, none⟩ x).setCell ⟨b, 1, none⟩ y).setCell ⟨b, 2, none⟩ z).setCell ⟨b', 0, none⟩ x').setCell ⟨b', 1, none⟩ y').setCell ⟨b', 2, none⟩ z').cell? ⟨k, i, none⟩ = u.cell? ⟨k, i, none⟩ :=
  (cell_set3 hk').trans (cell_set3 hk)
theorem cell_sa {u : World} {b : Nat} {x y z : Value} {o : Obj} {k i : Nat} (hk : k ≠ b) (hk' : k < u.heap.size) :
    ((((u.setCell ⟨b, 0, none⟩ x).setCell ⟨b, 1, none⟩ y).setCell ⟨b, 2, none⟩ z).alloc o).cell? ⟨k, i, none⟩ = u.cell? ⟨k, i, none⟩ :=
  (cell_alloc1 (by simpa [World.setCell] using hk')).trans (cell_set3 hk)
theorem sto_new' (t : TypeId) (u : World) (x y z : Value) {k : Nat} (h : u.heap.size = k) : Sto t u (u.alloc (.cells #[x, y, z] t)) k x y z := h ▸ sto_new t u x y z
/-- Two blocks, one behind the other. -/
theorem Sto.two {t : TypeId} {u U V : World} {b b' : Nat} {x y z x' y' z' : Value} (s : Sto t u U b x y z) (r : Sto t U V b' x' y' z') (h : b ≠ b') :
    ∃ W, W = V ∧ Box t W b x y z ∧ Box t W b' x' y' z' ∧ (∀ B w, Below B w u → B ≤ b → B ≤ b' → Below B w W) ∧ (∀ a c xs, Rd u a c xs → Rd W a c xs) ∧ (∀ t' k x y z, k ≠ b → k ≠ b' → Box t' u k x y z → Box t' W k x y z) :=
  ⟨V, rfl, r.2.2.2 _ _ _ _ _ h s.1, r.1, fun _ _ hb h1 h2 => r.2.1 _ _ (s.2.1 _ _ hb h1) h2, fun _ _ _ hr => r.2.2.1 _ _ _ (s.2.2.1 _ _ _ hr), fun _ _ _ _ _ h1 h2 hB => r.2.2.2 _ _ _ _ _ h2 (s.2.2.2 _ _ _ _ _ h1 hB)⟩
theorem Ct.keep {u U : World} {v : Value} {k : Nat} {q : Rat} (h : Ct u v k q) (hK : ∀ a c xs, Rd u a c xs → Rd U a c xs) : Ct U v k q := by
  obtain ⟨n0, x0, y0, ⟨e1, e2, e3, e4, e5, e6, e7⟩, e8⟩ := h
  exact ⟨n0, x0, y0, ⟨e1, e2, e3, e4, e5, hK _ _ _ e6, hK _ _ _ e7⟩, e8⟩
theorem after2d {t s : TypeId} {w u : World} {x y z x' y' z' : Value} (hb : Below ((w.alloc (.cells #[x, y, z] t)).alloc (.cells #[x', y', z'] s)).drew.heap.size ((w.alloc (.cells #[x, y, z] t)).alloc (.cells #[x', y', z'] s)).drew u) :
    Box t u w.heap.size x y z ∧ Box s u (w.heap.size + 1) x' y' z' ∧ Below w.heap.size w u := after2 (Below.drew1.trans hb)

theorem formedF_any (k : Nat) (q : Rat) (v : Value) (w : World) (h : Fr w v k q) (hk : k ≤ 400000000) :
    Calls Tryz.prog 86 #[v] w fun e w' => e = .returned (.bool true) ∧ Below w.heap.size w w' := by
  obtain ⟨n, xs, ys, ⟨a, c, a', c', rfl, hx, hy⟩, hf, lx, ly, _⟩ := h
  refine (formed_any _ _ _ _ _ _ _ _ hx hy (by omega) (by omega)).mono ?_
  rintro e u ⟨rfl, hb⟩
  exact ⟨ret_bool (decide_eq_true hf), hb⟩

/-- Two formed writings of one number. -/
def Two (w : World) (n : Bool) (a : Option Addr) (c : Nat) (xs : List Nat) (a' : Option Addr) (c' : Nat) (ys : List Nat) (m : Bool) (b : Option Addr) (d : Nat) (ps : List Nat) (b' : Option Addr) (d' : Nat) (qs : List Nat) (q : Rat) : Prop :=
  Rd w a c xs ∧ Rd w a' c' ys ∧ Rd w b d ps ∧ Rd w b' d' qs ∧ Fmd n xs ys ∧ xs.length ≤ 9 ∧ ys.length ≤ 9 ∧ qv n xs ys = q ∧ Fmd m ps qs ∧ ps.length ≤ 9 ∧ qs.length ≤ 9 ∧ qv m ps qs = q

end Go.Proofs.YtdholmnniccbcaaGreatDoor
