/-
  What a law of layer 14 is told of what came in: an outline and its tuples.
-/
import Derived.Test.YtngmcghmniakeaaGreatZB44
import Derived.Test.YtngmcghmniakeaaGreatZB20
namespace Go.Proofs.YtngmcghmniakeaaGreat
open Go.RowKit
open Go.ChangeShapes Go.WideShapes Go.Joins Go.Deep
set_option linter.unusedSimpArgs false
set_option linter.unusedVariables false

theorem opens_te : Opens TeE 57 :=
  (Opens.struct (E := El.int.cat (El.int.cat El.int)) Tryz.underlying57 (by kernel_rfl) (OpensF.more opens_int rfl (OpensF.more opens_int rfl (OpensF.last opens_int rfl)))).via (fun x => ⟨⟨x.1, x.2.1, x.2.2⟩, rfl⟩)
theorem opens_tes : Opens TeE.row 58 := Opens.row opens_te Tryz.underlying58 (by kernel_rfl) (by decide) (of_decide_eq_true (by kernel_rfl))
theorem opens_tu : Opens TuE 60 :=
  (Opens.struct (E := TeE.row.cat (El.bool.cat (El.int.row.cat (El.int.row.cat El.int.row)))) Tryz.underlying60 (by kernel_rfl) (OpensF.more opens_tes rfl (OpensF.more opens_bool rfl (OpensF.more opens_is rfl (OpensF.more opens_is rfl (OpensF.last opens_is rfl)))))).via (fun x => ⟨⟨x.1, x.2.1, x.2.2.1, x.2.2.2.1, x.2.2.2.2⟩, rfl⟩)
theorem opens_tus : Opens TuE.row 26 := Opens.row opens_tu Tryz.underlying26 (by kernel_rfl) (by decide) (of_decide_eq_true (by kernel_rfl))
theorem opens_shape : Opens ((PnE.row.row.cat PaE.row).cat TuE.row) 28 :=
  Opens.struct Tryz.underlying28 (by kernel_rfl) (OpensF.more opens_outline rfl (OpensF.last opens_tus rfl))
set_option maxRecDepth 100000 in
/-- An outline and its tuples, by value. -/
theorem open_shape {H : Type} {enc : TypeId × Value → H} {W : World} {held : Bool} {r : Reach} {b0 : Nat} {v : Value} {d : DataW H} {p : List MemPlace}
    (hv : Value.okWide Tryz.prog W r b0 28 v) (hd : DataW.Trod enc Tryz.prog W 0 (fun _ => true) held 28 v d p) (hz : ∀ n ∈ d.weights Tryz.prog 28, n ≤ reachBytes) :
    ∃ a ca b cb, ∃ o : Ol, ∃ la lc, ∃ l : List Tu, v = .agg #[.slice a o.cs.length ca, .slice b o.ps.length cb, .slice la l.length lc] ∧ Gr PnE.row (fun k => k < W.heap.size) W a ca o.cs ∧ Gr PaE (fun k => k < W.heap.size) W b cb o.ps ∧ Gr TuE (fun k => k < W.heap.size) W la lc l := by
  obtain ⟨cs, ⟨⟨l, m⟩, n⟩, rfl, us, ts, e, ⟨us1, ts1, e1, ⟨a, ca, h1, _, h2, _⟩, b, cb, h3, _, h4, _⟩, c, cc, h5, _, h6, _⟩ := opens_shape.agg Tryz.underlying28 hv hd hz
  subst h1 h3 h5
  refine ⟨a, ca, b, cb, ⟨l, m⟩, c, cc, n, ?_, h2, h4, h6⟩
  congr 1
  apply Array.ext'
  rw [e, e1]
  rfl

end Go.Proofs.YtngmcghmniakeaaGreat
