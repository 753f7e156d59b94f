/-
  Bytes and a place behind a pointer (Sc), and worlds that are as they were but for one block (Kp).
  foundryref12.Same, of two alike: the walk.
-/
import Derived.Test.YtngmcghmniakeaaGreatZB12
import Derived.Test.YtngmcghmniakeaaGreatZB18
import Derived.BigQuiet
import Derived.Deep.QuietTactic
import Derived.WalkSmall
import Derived.Outline
namespace Go.Proofs.YtngmcghmniakeaaGreat
open Go.RowKit Go.Maps
set_option linter.unusedSimpArgs false
set_option linter.unusedVariables false

/-- All that was there is as it was, but for block g. -/
def Kp (g : Nat) (w w' : World) : Prop := Keep (fun k => k < w.heap.size ∧ k ≠ g) w w'
theorem Kp.refl (g : Nat) (w : World) : Kp g w w := Keep.refl _ _
theorem Kp.size {g : Nat} {w w' : World} (h : Kp g w w') : w.heap.size ≤ w'.heap.size := Keep.size h
theorem Kp.trans {g : Nat} {a b c : World} (h : Kp g a b) (k : Kp g b c) : Kp g a c :=
  Keep.trans h (Keep.mono k (fun i hi => ⟨Nat.lt_of_lt_of_le hi.1 h.size, hi.2⟩))
theorem Kp.of {g : Nat} {w w' : World} (h : Below w.heap.size w w') : Kp g w w' := Keep.of_below h (fun k hk => hk.1)
theorem Kp.setCell {g : Nat} {a w : World} (h : Kp g a w) (j : Nat) (z : Value) : Kp g a (w.setCell ⟨g, j, none⟩ z) := Keep.setCell h (p := ⟨g, j, none⟩) (fun e => e.2 rfl) z
theorem Kp.below {g B : Nat} {w w' : World} (h : Kp g w w') (h1 : B ≤ w.heap.size) (h2 : B ≤ g) : Below B w w' := Keep.below h (fun k hk => ⟨by omega, by omega⟩)
theorem Kp.alloc {g : Nat} {a w : World} (h : Kp g a w) (o : Obj) : Kp g a (w.alloc o) := h.trans (Kp.of (bl1 o))
theorem Kp.drew {g : Nat} {a w : World} (h : Kp g a w) : Kp g a w.drew := h.trans (Kp.of (Below.refl _ _).drew)
theorem Kp.grown {g : Nat} {a w w' : World} {r : Option Nat} (h : Kp g a w) (hg : w.grownBy w' r) (hr : ∀ k, r = some k → a.heap.size ≤ k) : Kp g a w' :=
  Keep.trans h ⟨hg.os, hg.tape, hg.output, hg.size, fun k hk => hg.block k (Nat.lt_of_lt_of_le hk.1 h.size) (fun e => by have := hr k e.symm; omega)⟩
theorem Kp.block {g : Nat} {w w' : World} (h : Kp g w w') {k : Nat} (h1 : k < w.heap.size) (h2 : k ≠ g) : w'.heap[k]? = w.heap[k]? := Keep.block h k ⟨h1, h2⟩
theorem Bk.kp {t : TypeId} {g b : Nat} {w w' : World} {cs : List Value} (h : Bk t w b cs) (hk : Kp g w w') (hb : b ≠ g) : Bk t w' b cs := (hk.block h.lt hb).trans h
theorem Bk.ne {t u : TypeId} {w : World} {g b : Nat} {cs ds : List Value} (h : Bk t w b cs) (h2 : Bk u w g ds) (ht : t ≠ u) : b ≠ g := by
  intro e
  subst e
  unfold Bk at h h2
  rw [h] at h2
  simp at h2
  exact ht h2.2
theorem Gw.kp {α : Type} {E : El α} {t u : TypeId} {base g : Nat} {w w' : World} {v : Value} {l : List α} {cs : List Value} (h : Gw E t base (fun _ => False) w v l) (hb : Bk u w g cs) (ht : u ≠ t) (hk : Kp g w w') : Gw E t base (fun _ => False) w' v l := by
  refine h.stay hk.size (fun k h1 => h1.elim) (fun k hv => hk.block (h.lo hv).2 (fun e => ?_))
  obtain ⟨cur, k1⟩ := h.ty hv
  rw [e, hb] at k1
  simp at k1
  exact ht k1.2
theorem Gi.kp {u : TypeId} {base g : Nat} {w w' : World} {v : Value} {l : List Int} {cs : List Value} (h : Gi base w v l) (hb : Bk u w g cs) (ht : u ≠ 3) (hk : Kp g w w') : Gi base w' v l := Gw.kp h hb ht hk
theorem Rb.keep' {w w' : World} {a : Option Addr} {cap : Nat} {xs : List Nat} (h : Rb w a cap xs) (hs : w.heap.size ≤ w'.heap.size) (hb : ∀ b o, b < w.heap.size → a = some ⟨b, o, none⟩ → xs ≠ [] → w'.heap[b]? = w.heap[b]?) : Rb w' a cap xs := by
  by_cases h0 : xs = []
  · exact ⟨h.1, h.2.1, h.2.2.1, h.2.2.2.1, .inl h0⟩
  · exact h.keep hs (fun b hb1 ⟨o, e⟩ => hb b o hb1 e h0)
/-- Bytes and a place: a block of two cells. -/
def Sc (t : TypeId) (w : World) (g : Nat) (pa : Option Addr) (pc : Nat) (xs : List Nat) (p : Nat) : Prop :=
  Bk t w g [.slice pa xs.length pc, .int .i64 (p : Int)] ∧ Rb w pa pc xs ∧ ∀ b o, pa = some ⟨b, o, none⟩ → xs ≠ [] → b ≠ g
theorem Sc.bk {t : TypeId} {w : World} {g : Nat} {pa : Option Addr} {pc : Nat} {xs : List Nat} {p : Nat} (h : Sc t w g pa pc xs p) : Bk t w g [.slice pa xs.length pc, .int .i64 (p : Int)] := h.1
theorem Sc.rb {t : TypeId} {w : World} {g : Nat} {pa : Option Addr} {pc : Nat} {xs : List Nat} {p : Nat} (h : Sc t w g pa pc xs p) : Rb w pa pc xs := h.2.1
theorem Sc.below {t : TypeId} {w w' : World} {g : Nat} {pa : Option Addr} {pc : Nat} {xs : List Nat} {p : Nat} (h : Sc t w g pa pc xs p) (hb : Below w.heap.size w w') : Sc t w' g pa pc xs p := ⟨h.1.below hb, h.2.1.below hb, h.2.2⟩
theorem Sc.step {t : TypeId} {w : World} {g : Nat} {pa : Option Addr} {pc : Nat} {xs : List Nat} {p : Nat} (h : Sc t w g pa pc xs p) (q : Nat) : Sc t (w.setCell ⟨g, 1, none⟩ (.int .i64 (q : Int))) g pa pc xs q :=
  ⟨h.1.set 1 _, h.2.1.keep' (by simp [World.setCell]) (fun b o _ e hne => Below.heap_setCell _ _ _ _ (fun e2 => h.2.2 b o e hne e2)), h.2.2⟩
/-- A row of the call's own that grows leaves it. -/
theorem Sc.grown {t : TypeId} {w w' : World} {g : Nat} {pa : Option Addr} {pc : Nat} {xs : List Nat} {p : Nat} {r : Option Nat} (h : Sc t w g pa pc xs p) (hg : w.grownBy w' r) (hr : r ≠ some g) (hb : ∀ b o, pa = some ⟨b, o, none⟩ → xs ≠ [] → r ≠ some b) : Sc t w' g pa pc xs p :=
  ⟨h.1.grown hg hr, h.2.1.keep' hg.size (fun b o hb1 e hne => hg.block b hb1 (fun e2 => hb b o e hne e2.symm)), h.2.2⟩
theorem Sc.base {t : TypeId} {w w0 : World} {g : Nat} {pa : Option Addr} {pc : Nat} {xs : List Nat} {p : Nat} (h : Sc t w g pa pc xs p) : g < w.heap.size := h.1.lt

end Go.Proofs.YtngmcghmniakeaaGreat

namespace Go.Proofs.YtngmcghmniakeaaGreat
open Go.RowKit Go.Maps
set_option linter.unusedSimpArgs false
set_option linter.unusedVariables false

theorem Gr.rwAt {α : Type} {E : El α} {S : Nat → Prop} {w : World} {a : Option Addr} {cap : Nat} {m : List (List α)} (h : Gr E.row S w a cap m) (k : Nat) (hk : k < m.length) :
    ∃ b off a' cap', a = some ⟨b, off, none⟩ ∧ b < w.heap.size ∧ (∀ wr, Below w.heap.size w wr → wr.cell? ⟨b, off + k, none⟩ = some (.slice a' (m.getD k []).length cap')) ∧ Gr E S w a' cap' (m.getD k []) := by
  obtain ⟨b, off, a', cap', e, hb, hc, hr, _⟩ := h.rw (Below.refl _ _) k hk
  exact ⟨b, off, a', cap', e, hb, fun wr hB => (hB.cell (p := ⟨b, off + k, none⟩) hb).trans hc, hr⟩

end Go.Proofs.YtngmcghmniakeaaGreat
