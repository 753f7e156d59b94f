/-
  Outlines: how bytes are read, and that what is written is read (plain mathematics).
  Outlines: what the laws ask (plain mathematics).
  How points, parts and outlines lie in a world.
-/
import Derived.Test.YtngmcghmniakeaaGreatZB17
import Derived.Test.YtngmcghmniakeaaGreatZB12
import Derived.Test.YtngmcghmniakeaaGreatZB9
namespace Go.Proofs.YtngmcghmniakeaaGreat
set_option linter.unusedSimpArgs false
set_option linter.unusedVariables false
end Go.Proofs.YtngmcghmniakeaaGreat

namespace Go.Proofs.YtngmcghmniakeaaGreat
set_option linter.unusedSimpArgs false
set_option linter.unusedVariables false
end Go.Proofs.YtngmcghmniakeaaGreat

namespace Go.Proofs.YtngmcghmniakeaaGreat
open Go.RowKit Go.Maps
set_option linter.unusedSimpArgs false
set_option linter.unusedVariables false

def PnE : El Pn := (El.int.cat (El.int.cat El.bool)).via (fun p => (p.x, p.y, p.on)) Pn.none
def PaE : El Pa := (El.int.cat (El.int.cat El.int)).via (fun p => (p.g, p.dx, p.dy)) Pa.none
def PnW (p : Pn) : Prop := I64 p.x ∧ I64 p.y
def PaW (p : Pa) : Prop := I64 p.g ∧ I64 p.dx ∧ I64 p.dy
def pnC (p : Pn) : List Value := [.int .i64 p.x, .int .i64 p.y, .bool p.on]
def paC (p : Pa) : List Value := [.int .i64 p.g, .int .i64 p.dx, .int .i64 p.dy]
theorem PnE_rep {S : Nat → Prop} {w : World} {vs : List Value} {p : Pn} : PnE.rep S w vs p ↔ vs = pnC p ∧ PnW p := by
  constructor
  · rintro ⟨us, ts, rfl, ⟨rfl, h1⟩, us2, ts2, rfl, ⟨rfl, h2⟩, h3⟩
    have h3 : ts2 = [.bool p.on] := h3
    subst h3
    exact ⟨rfl, h1, h2⟩
  · rintro ⟨rfl, h1, h2⟩
    exact ⟨[_], _, rfl, ⟨rfl, h1⟩, [_], [_], rfl, ⟨rfl, h2⟩, rfl⟩
theorem PaE_rep {S : Nat → Prop} {w : World} {vs : List Value} {p : Pa} : PaE.rep S w vs p ↔ vs = paC p ∧ PaW p := by
  constructor
  · rintro ⟨us, ts, rfl, ⟨rfl, h1⟩, us2, ts2, rfl, ⟨rfl, h2⟩, ⟨rfl, h3⟩⟩
    exact ⟨rfl, h1, h2, h3⟩
  · rintro ⟨rfl, h1, h2, h3⟩
    exact ⟨[_], _, rfl, ⟨rfl, h1⟩, [_], [_], rfl, ⟨rfl, h2⟩, ⟨rfl, h3⟩⟩
theorem Gr.pn {S : Nat → Prop} {w wr : World} {a : Option Addr} {cap : Nat} {l : List Pn} (h : Gr PnE S w a cap l) (hb : Below w.heap.size w wr) (k : Nat) (hk : k < l.length) :
    ∃ b off, a = some ⟨b, off, none⟩ ∧ b < w.heap.size ∧ PnW (l.getD k Pn.none) ∧ wr.cell? ⟨b, off + k * 3, none⟩ = some (.int .i64 (l.getD k Pn.none).x) ∧ wr.cell? ⟨b, off + k * 3 + 1, none⟩ = some (.int .i64 (l.getD k Pn.none).y) ∧ wr.cell? ⟨b, off + k * 3 + 2, none⟩ = some (.bool (l.getD k Pn.none).on) := by
  obtain ⟨b, off, vs, e, hl, hr, hc⟩ := h.at hb k hk
  obtain ⟨rfl, hw⟩ := PnE_rep.1 hr
  exact ⟨b, off, e, hl, hw, hc 0 (by decide), hc 1 (by decide), hc 2 (by decide)⟩
theorem Gr.pa {S : Nat → Prop} {w wr : World} {a : Option Addr} {cap : Nat} {l : List Pa} (h : Gr PaE S w a cap l) (hb : Below w.heap.size w wr) (k : Nat) (hk : k < l.length) :
    ∃ b off, a = some ⟨b, off, none⟩ ∧ b < w.heap.size ∧ PaW (l.getD k Pa.none) ∧ wr.cell? ⟨b, off + k * 3, none⟩ = some (.int .i64 (l.getD k Pa.none).g) ∧ wr.cell? ⟨b, off + k * 3 + 1, none⟩ = some (.int .i64 (l.getD k Pa.none).dx) ∧ wr.cell? ⟨b, off + k * 3 + 2, none⟩ = some (.int .i64 (l.getD k Pa.none).dy) := by
  obtain ⟨b, off, vs, e, hl, hr, hc⟩ := h.at hb k hk
  obtain ⟨rfl, hw⟩ := PaE_rep.1 hr
  exact ⟨b, off, e, hl, hw, hc 0 (by decide), hc 1 (by decide), hc 2 (by decide)⟩
/-- An element of a row of rows. -/
theorem Gr.rw {α : Type} {E : El α} {S : Nat → Prop} {w wr : World} {a : Option Addr} {cap : Nat} {m : List (List α)} (h : Gr E.row S w a cap m) (hb : Below w.heap.size w wr) (k : Nat) (hk : k < m.length) :
    ∃ b off a' cap', a = some ⟨b, off, none⟩ ∧ b < w.heap.size ∧ wr.cell? ⟨b, off + k, none⟩ = some (.slice a' (m.getD k []).length cap') ∧ Gr E S wr a' cap' (m.getD k []) ∧ (m.getD k []).length ≤ 140737488351232 ∧ ∀ b o, a' = some ⟨b, o, none⟩ → m.getD k [] ≠ [] → S b := by
  obtain ⟨b, off, vs, e, hl, ⟨a', cap', hv, hS, hr, hlb⟩, hc⟩ := h.at hb k hk
  have := hc 0 Nat.one_pos
  rw [hv, show k * E.row.sz = k from Nat.mul_one k] at this
  exact ⟨b, off, a', cap', e, hl, this, hr, hlb, hS⟩
/-- A row of rows, element by element, with no world told. -/
theorem getL' {α : Type} {m : List (List α)} {k : Nat} (hk : k < m.length) : m.getD k [] = m[k] := by simp [List.getD, hk]
theorem getL_mem' {α : Type} {m : List (List α)} {k : Nat} (hk : k < m.length) : m.getD k [] ∈ m := by rw [getL' hk]; exact List.getElem_mem hk
theorem get_mem {α : Type} {m : List α} {d : α} {k : Nat} (hk : k < m.length) : m.getD k d ∈ m := by rw [List.getD_eq_getElem?_getD, List.getElem?_eq_getElem hk]; exact List.getElem_mem hk
theorem of_get {α : Type} {p : α → Prop} {d : α} {m : List α} (h : ∀ k, k < m.length → p (m.getD k d)) : ∀ x ∈ m, p x := by
  intro x hx
  obtain ⟨i, hi, e⟩ := List.getElem_of_mem hx
  have := h i hi
  rw [List.getD_eq_getElem?_getD, List.getElem?_eq_getElem hi, Option.getD_some, e] at this
  exact this
theorem take_snoc {α : Type} {m : List α} {d : α} {k : Nat} (hk : k < m.length) : m.take (k + 1) = m.take k ++ [m.getD k d] := by
  rw [List.take_add_one, List.getElem?_eq_getElem hk]
  simp [List.getD, hk]
theorem info_pn : (Tryz.prog.info? 54).map (fun i => (i.zero, i.size, i.bytes)) = some (some (.agg #[.int .i64 0, .int .i64 0, .bool false]), 3, 24) := by kernel_rfl
theorem info_pa : (Tryz.prog.info? 91).map (fun i => (i.zero, i.size, i.bytes)) = some (some (.agg #[.int .i64 0, .int .i64 0, .int .i64 0]), 3, 24) := by kernel_rfl
theorem info_pns : (Tryz.prog.info? 55).map (fun i => (i.zero, i.size, i.bytes)) = some (some (.slice none 0 0), 1, 24) := by kernel_rfl

end Go.Proofs.YtngmcghmniakeaaGreat
