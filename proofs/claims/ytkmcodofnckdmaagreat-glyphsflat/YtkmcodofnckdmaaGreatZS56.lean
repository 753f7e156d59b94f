/-
  What a law of layer 15 is told of what came in: glyphs, a store and a number of axes.
-/
import Derived.Test.YtkmcodofnckdmaaGreatZS55
import Derived.Test.YtkmcodofnckdmaaGreatZS13
import Derived.Test.YtkmcodofnckdmaaGreatZS26
set_option maxRecDepth 100000
set_option linter.unusedSimpArgs false
set_option linter.unusedVariables false
namespace Go.Proofs.YtkmcodofnckdmaaGreat
open Go.RowKit
open Go.ChangeShapes Go.WideShapes Go.Joins Go.Deep
theorem opens_slot : Opens (El.int.cat El.int) 60 := Opens.struct Tryz.underlying60 (by kernel_rfl) (OpensF.more opens_int rfl (OpensF.last opens_int rfl))
theorem opens_gl : Opens GlE 62 := by
 refine ⟨by kernel_rfl, fun H enc W held fuel cs x hf hz => ?_⟩
 have h := (Opens.struct (E := (PnE.row.row.cat PaE.row).cat (TuE.row.cat ((El.int.cat El.int).cat El.bool))) Tryz.underlying62 (by kernel_rfl) (OpensF.more opens_outline rfl (OpensF.more opens_tus rfl (OpensF.more opens_slot rfl (OpensF.last opens_bool rfl))))).2 H enc W held fuel cs x hf hz
 obtain ⟨⟨⟨l, m⟩, n, ⟨y, z⟩, q⟩, us, ts, rfl, ⟨us1, ts1, rfl, h1, h2⟩, us2, ts2, rfl, h3, us3, ts3, rfl, ⟨us4, ts4, rfl, h4, h5⟩, h6⟩ := h
 refine ⟨⟨⟨l, m⟩, n, y, z, q⟩, us1, ts1 ++ (us2 ++ ((us4 ++ ts4) ++ ts3)), by simp only [List.append_assoc], h1, ts1, us2 ++ ((us4 ++ ts4) ++ ts3), rfl, h2, us2, (us4 ++ ts4) ++ ts3, rfl, h3, us4, ts4 ++ ts3, by simp only [List.append_assoc], h4, ts4, ts3, rfl, h5, h6⟩
theorem opens_gls : Opens GlE.row 22 := Opens.row opens_gl Tryz.underlying22 (by kernel_rfl) (by decide) (of_decide_eq_true (by kernel_rfl))
theorem opens_tess : Opens TeE.row.row 23 := Opens.row opens_tes Tryz.underlying23 (by kernel_rfl) Nat.one_pos (of_decide_eq_true (by kernel_rfl))
theorem opens_iss : Opens El.int.row.row 24 := Opens.row opens_is Tryz.underlying24 (by kernel_rfl) Nat.one_pos (of_decide_eq_true (by kernel_rfl))
theorem opens_store : Opens (TeE.row.row.cat El.int.row.row) 26 := Opens.struct Tryz.underlying26 (by kernel_rfl) (OpensF.more opens_tess rfl (OpensF.last opens_iss rfl))
theorem opens_set : Opens (GlE.row.cat ((TeE.row.row.cat El.int.row.row).cat El.int)) 28 :=
 Opens.struct Tryz.underlying28 (by kernel_rfl) (OpensF.more opens_gls rfl (OpensF.more opens_store rfl (OpensF.last opens_int rfl)))
theorem Gr.tzz {S : Nat → Prop} {w : World} {a : Option Addr} {cap : Nat} {m : List (List Te)} (h : Gr TeE.row S w a cap m) : Tzz w a cap m := by
 refine ⟨h.1, h.2.1, fun i hi => ?_⟩
 obtain ⟨b, off, a', cap', h1, h2, h3, h4, -⟩ := h.rw (Below.refl _ _) i hi
 exact ⟨b, off, a', cap', h1, h2, h3, h4.tz⟩
theorem Gr.rii {S : Nat → Prop} {w : World} {a : Option Addr} {cap : Nat} {m : List (List Int)} (h : Gr El.int.row S w a cap m) : Rii w a cap m := by
 refine ⟨h.1, h.2.1, fun i hi => ?_⟩
 obtain ⟨b, off, a', cap', h1, h2, h3, h4, -⟩ := h.rw (Below.refl _ _) i hi
 exact ⟨b, off, a', cap', h1, h2, h3, h4.ri⟩
theorem open_set {H : Type} {enc : TypeId × Value → H} {W : World} {held : Bool} {r : Reach} {b0 : Nat} {v : Value} {d : DataW H} {p : List MemPlace}
    (hv : Value.okWide Tryz.prog W r b0 28 v) (hd : DataW.Trod enc Tryz.prog W 0 (fun _ => true) held 28 v d p) (hz : ∀ n ∈ d.weights Tryz.prog 28, n ≤ reachBytes) :
    ∃ a ca, ∃ l : List Gl, ∃ ga gc ma mc, ∃ s : Sr, ∃ ax : Int, v = .agg #[.slice a l.length ca, .slice ga s.rg.length gc, .slice ma s.rw.length mc, .int .i64 ax] ∧ Gr GlE (fun k => k < W.heap.size) W a ca l ∧ Tzz W ga gc s.rg ∧ Rii W ma mc s.rw ∧ I64 ax := by
 obtain ⟨cs, ⟨l, ⟨m, n⟩, z⟩, rfl, us, ts, e, ⟨a, ca, h1, _, h2, _⟩, us1, ts1, e1, ⟨us2, ts2, e2, ⟨b, cb, h3, _, h4, _⟩, c, cc, h5, _, h6, _⟩, ⟨h7, h8⟩⟩ := opens_set.agg Tryz.underlying28 hv hd hz
 subst h1 h3 h5 h7
 refine ⟨a, ca, l, b, cb, c, cc, ⟨m, n⟩, z, ?_, h2, h4.tzz, h6.rii, h8⟩
 congr 1
 apply Array.ext'
 rw [e, e1, e2]
 rfl
end Go.Proofs.YtkmcodofnckdmaaGreat
