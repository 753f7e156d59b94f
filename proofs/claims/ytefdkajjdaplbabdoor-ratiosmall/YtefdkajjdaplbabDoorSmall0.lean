/-
  For foundrylaw02.RatioSmall: pairs of integers in blocks; signs of differences of fractions.
-/
import Derived.Test.YtefdkajjdaplbabDoorLawRounds
import Derived.OpenShut
import Derived.WideShapes
import Derived.Lib.SmallJoins
namespace Go.Proofs.YtefdkajjdaplbabDoor
open Go.RowKit Go.WideShapes Go.Joins
set_option linter.unusedSimpArgs false
set_option linter.unusedVariables false

theorem wf_i32_bounds {n : Int} (h : (Lit.int .i32 n).wf = true) : -2147483648 ≤ n ∧ n < 2147483648 := by
  simp [Lit.wf, IntKind.min, IntKind.max, IntKind.bits, IntKind.signed] at h
  omega

/-- Block b holds two cells. -/
def Box2 (t : TypeId) (w : World) (b : Nat) (x y : Value) : Prop := w.heap[b]? = some (.cells #[x, y] t (0, 0))
theorem Box2.lt {t : TypeId} {w : World} {b : Nat} {x y : Value} (h : Box2 t w b x y) : b < w.heap.size := (Array.getElem?_eq_some_iff.1 h).1
theorem Box2.below {t : TypeId} {w w' : World} {b : Nat} {x y : Value} (h : Box2 t w b x y) (hb : Below w.heap.size w w') : Box2 t w' b x y := (hb.block b h.lt).trans h
theorem Box2.cells {t : TypeId} {w : World} {b : Nat} {x y : Value} (h : Box2 t w b x y) : w.cell? ⟨b, 0, none⟩ = some x ∧ w.cell? ⟨b, 1, none⟩ = some y :=
  ⟨cell_of_row w b 0 _ t (0, 0) h, cell_of_row w b 1 _ t (0, 0) h⟩
theorem Box2.new (t : TypeId) (w : World) (x y : Value) : Box2 t (w.alloc (.cells #[x, y] t)) w.heap.size x y := heap_alloc_new w (.cells #[x, y] t)
theorem Box2.alloc {t : TypeId} {w : World} {b : Nat} {x y : Value} (h : Box2 t w b x y) (o : Obj) : Box2 t (w.alloc o) b x y := h.below (al1 o)
theorem pairs3 {t : TypeId} {w u : World} {x y x' y' x'' y'' : Value} (hb : Below (((w.alloc (.cells #[x, y] t)).alloc (.cells #[x', y'] t)).alloc (.cells #[x'', y''] t)).heap.size (((w.alloc (.cells #[x, y] t)).alloc (.cells #[x', y'] t)).alloc (.cells #[x'', y''] t)) u) :
    Box2 t u w.heap.size x y ∧ Box2 t u (w.heap.size + 1) x' y' ∧ Box2 t u (w.heap.size + 1 + 1) x'' y'' ∧ Below w.heap.size w u := by
  refine ⟨(((Box2.new _ _ _ _).alloc _).alloc _).below hb, ?_, ?_, (al3 _ _ _).trans (hb.mono (by simp; omega))⟩
  · have h := Box2.new t (w.alloc (.cells #[x, y] t)) x' y'
    have h2 := (h.alloc (.cells #[x'', y''] t)).below hb
    simpa using h2
  · have h := (Box2.new t ((w.alloc (.cells #[x, y] t)).alloc (.cells #[x', y'] t)) x'' y'').below hb
    simpa using h

/-- An array of two int32 that came in by value. -/
theorem open_pair {H : Type} {enc : TypeId × Value → H} {P : Program} {w : World} {base : Nat} {spare : Nat → Bool} {held : Bool} {r : Reach} {b0 : Nat} {t e : TypeId} {v : Value} {d : DataW H} {p : List MemPlace}
    (hs : P.underlying t = some (.array 2 e)) (he : P.underlying e = some (.int .i32)) (hc : P.cellsOf e = 1) (hC : P.cellsOf t = 2)
    (hv : Value.okWide P w r b0 t v) (h : DataW.Trod enc P w base spare held t v d p) :
    ∃ x y, v = .agg #[.int .i32 x, .int .i32 y] ∧ (Lit.int .i32 x).wf = true ∧ (Lit.int .i32 y).wf = true := by
  simp only [Value.okWide, hs] at hv
  obtain ⟨cs, rfl, hsz, _⟩ := hv
  obtain ⟨c0, c1, rfl⟩ := array2 (hsz.trans hC)
  obtain ⟨fuel, hf⟩ := h
  obtain ⟨zs, m, _, _, _, hl, ht⟩ := DataW.trod_array hs hf
  have h0 := ht 0 (by decide)
  have h1 := ht 1 (by decide)
  rw [hc] at h0 h1
  rw [List.getElem?_eq_getElem (by omega)] at h0 h1
  obtain ⟨x, e0, _, w0⟩ := DataW.trod_int he h0
  obtain ⟨y, e1, _, w1⟩ := DataW.trod_int he h1
  simp [Value.cells] at e0 e1
  exact ⟨x, y, by rw [e0, e1], w0, w1⟩

/-- The sign of an integer. -/
def sgnI (z : Int) : Int := if z < 0 then -1 else if 0 < z then 1 else 0
theorem sgn_frac (z : Int) {d : Int} (hd : 0 < d) : sgnQ ((z : Rat) / (d : Rat)) = sgnI z := by
  have hd' : (0 : Rat) < (d : Rat) := by exact_mod_cast hd
  unfold sgnI
  by_cases h1 : z < 0
  · rw [if_pos h1]
    refine sgn_neg ?_
    rw [Rat.div_lt_iff hd']
    have : (z : Rat) < 0 := by exact_mod_cast h1
    grind
  · rw [if_neg h1]
    by_cases h2 : 0 < z
    · rw [if_pos h2]
      refine sgn_pos ?_
      have h3 : (0 : Rat) < (z : Rat) := by exact_mod_cast h2
      have h4 : -((z : Rat) / (d : Rat)) < 0 := by
        have : -((z : Rat) / (d : Rat)) = (-(z : Rat)) / (d : Rat) := by rw [Rat.div_def, Rat.div_def]; grind
        rw [this, Rat.div_lt_iff hd']
        grind
      grind
    · have : z = 0 := by omega
      subst this
      rw [if_neg h2]
      refine sgnQ_zero.2 ?_
      simp [Rat.div_def]

theorem cross {n d m e : Int} (hd : d ≠ 0) (he : e ≠ 0) : (n : Rat) / (d : Rat) - (m : Rat) / (e : Rat) = ((n * e - m * d : Int) : Rat) / ((d * e : Int) : Rat) := by
  have h1 : (d : Rat) ≠ 0 := by exact_mod_cast hd
  have h2 : (e : Rat) ≠ 0 := by exact_mod_cast he
  push_cast
  grind
theorem cross_neg (z d : Int) (hd : d ≠ 0) : (z : Rat) / (d : Rat) = ((-z : Int) : Rat) / ((-d : Int) : Rat) := by
  have h1 : (d : Rat) ≠ 0 := by exact_mod_cast hd
  push_cast
  grind

/-- Two fractions are compared as their cross products are. -/
theorem sgn_cross {n d m e : Int} (hd : d ≠ 0) (he : e ≠ 0) : sgnQ ((n : Rat) / (d : Rat) - (m : Rat) / (e : Rat)) = if (decide (d < 0) != decide (e < 0)) = true then sgnI (-(n * e) - -(m * d)) else sgnI (n * e - m * d) := by
  have hde : d * e ≠ 0 := Int.mul_ne_zero hd he
  rw [cross hd he]
  by_cases h1 : d < 0 <;> by_cases h2 : e < 0
  · have hp : 0 < d * e := Int.mul_pos_of_neg_of_neg h1 h2
    simp only [h1, h2]
    rw [if_neg (by decide), sgn_frac _ hp]
  · have hp : 0 < -(d * e) := by have := Int.mul_neg_of_neg_of_pos h1 (show 0 < e by omega); omega
    simp only [h1, h2]
    rw [if_pos (by decide), cross_neg _ _ hde, sgn_frac _ hp]
    congr 1
    omega
  · have hp : 0 < -(d * e) := by have := Int.mul_neg_of_pos_of_neg (show 0 < d by omega) h2; omega
    simp only [h1, h2]
    rw [if_pos (by decide), cross_neg _ _ hde, sgn_frac _ hp]
    congr 1
    omega
  · have hp : 0 < d * e := Int.mul_pos (by omega) (by omega)
    simp only [h1, h2]
    rw [if_neg (by decide), sgn_frac _ hp]

end Go.Proofs.YtefdkajjdaplbabDoor
