/-
  Pairs of integers in blocks, and as arguments. Nothing here is a walk.
-/
import Derived.Test.YthepikmllmfofaaQB
import Derived.OpenShut
import Derived.WideShapes
import Derived.Lib.SmallJoins
namespace Go.Proofs.Ythepikmllmfofaa
open Go.RowKit Go.WideShapes Go.Joins
set_option linter.unusedSimpArgs false
set_option linter.unusedVariables false

theorem wf_i16_bounds {n : Int} (h : (Lit.int .i16 n).wf = true) : -32768 ≤ n ∧ n < 32768 := by
  simp [Lit.wf, IntKind.min, IntKind.max, IntKind.bits, IntKind.signed] at h
  omega
theorem wf_i32_bounds {n : Int} (h : (Lit.int .i32 n).wf = true) : -2147483648 ≤ n ∧ n < 2147483648 := by
  simp [Lit.wf, IntKind.min, IntKind.max, IntKind.bits, IntKind.signed] at h
  omega
theorem wf_u8_bounds {n : Int} (h : (Lit.int .u8 n).wf = true) : 0 ≤ n ∧ n < 256 := by
  simp [Lit.wf, IntKind.min, IntKind.max, IntKind.bits, IntKind.signed] at h
  omega
theorem wf_u16_bounds {n : Int} (h : (Lit.int .u16 n).wf = true) : 0 ≤ n ∧ n < 65536 := by
  simp [Lit.wf, IntKind.min, IntKind.max, IntKind.bits, IntKind.signed] at h
  omega

/-- Block b holds two cells. -/
def Box2 (t : TypeId) (w : World) (b : Nat) (x y : Value) : Prop := w.heap[b]? = some (.cells #[x, y] t (0, 0))
theorem Box2.lt {t : TypeId} {w : World} {b : Nat} {x y : Value} (h : Box2 t w b x y) : b < w.heap.size := (Array.getElem?_eq_some_iff.1 h).1
theorem Box2.below {t : TypeId} {w w' : World} {b : Nat} {x y : Value} (h : Box2 t w b x y) (hb : Below w.heap.size w w') : Box2 t w' b x y := (hb.block b h.lt).trans h
theorem Box2.cells {t : TypeId} {w : World} {b : Nat} {x y : Value} (h : Box2 t w b x y) : w.cell? ⟨b, 0, none⟩ = some x ∧ w.cell? ⟨b, 1, none⟩ = some y :=
  ⟨cell_of_row w b 0 _ t (0, 0) h, cell_of_row w b 1 _ t (0, 0) h⟩
theorem Box2.new (t : TypeId) (w : World) (x y : Value) : Box2 t (w.alloc (.cells #[x, y] t)) w.heap.size x y := heap_alloc_new w (.cells #[x, y] t)
theorem Box2.alloc {t : TypeId} {w : World} {b : Nat} {x y : Value} (h : Box2 t w b x y) (o : Obj) : Box2 t (w.alloc o) b x y := h.below (al1 o)
theorem pairs2 {t : TypeId} {w u : World} {x y x' y' : Value} (hb : Below ((w.alloc (.cells #[x, y] t)).alloc (.cells #[x', y'] t)).heap.size ((w.alloc (.cells #[x, y] t)).alloc (.cells #[x', y'] t)) u) :
    Box2 t u w.heap.size x y ∧ Box2 t u (w.heap.size + 1) x' y' ∧ Below w.heap.size w u := by
  refine ⟨((Box2.new _ _ _ _).alloc _).below hb, ?_, (al2 _ _).trans (hb.mono (by simp; omega))⟩
  have h := (Box2.new t (w.alloc (.cells #[x, y] t)) x' y').below hb
  simpa using h
theorem pair1 {t : TypeId} {w u : World} {x y : Value} (hb : Below (w.alloc (.cells #[x, y] t)).heap.size (w.alloc (.cells #[x, y] t)) u) :
    Box2 t u w.heap.size x y ∧ Below w.heap.size w u := ⟨(Box2.new _ _ _ _).below hb, (al1 _).trans (hb.mono (by simp))⟩

/-- An array of two integers that came in by value. -/
theorem open_duo {H : Type} {enc : TypeId × Value → H} {P : Program} {w : World} {base : Nat} {spare : Nat → Bool} {held : Bool} {r : Reach} {b0 : Nat} {t e : TypeId} {k : IntKind} {v : Value} {d : DataW H} {p : List MemPlace}
    (hs : P.underlying t = some (.array 2 e)) (he : P.underlying e = some (.int k)) (hc : P.cellsOf e = 1) (hC : P.cellsOf t = 2)
    (hv : Value.okWide P w r b0 t v) (h : DataW.Trod enc P w base spare held t v d p) :
    ∃ x y, v = .agg #[.int k x, .int k y] ∧ (Lit.int k x).wf = true ∧ (Lit.int k y).wf = true := by
  simp only [Value.okWide, hs] at hv
  obtain ⟨cs, rfl, hsz, _⟩ := hv
  obtain ⟨c0, c1, rfl⟩ := array2 (hsz.trans hC)
  obtain ⟨fuel, hf⟩ := h
  obtain ⟨zs, m, _, _, _, hl, ht⟩ := DataW.trod_array hs hf
  have h0 := ht 0 (by decide)
  have h1 := ht 1 (by decide)
  rw [hc] at h0 h1
  rw [List.getElem?_eq_getElem (by omega)] at h0 h1
  obtain ⟨x, e0, _, w0⟩ := DataW.trod_int he h0
  obtain ⟨y, e1, _, w1⟩ := DataW.trod_int he h1
  simp [Value.cells] at e0 e1
  exact ⟨x, y, by rw [e0, e1], w0, w1⟩

end Go.Proofs.Ythepikmllmfofaa
