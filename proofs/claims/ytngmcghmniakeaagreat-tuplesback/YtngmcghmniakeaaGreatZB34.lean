/-
  octets.Page: Later: the walk.
  octets.Page: Now: the walk.
  Rows of ints beside a page (LayG).
  foundryref04.Page: how a page of the reference lies in a world (Ps); done, Big: the walks.
  Laws on append for the pages of the reference; a page whose bytes have grown.
-/
import Derived.Test.YtngmcghmniakeaaGreatZB16
import Derived.WalkSpells
import Derived.Test.YtngmcghmniakeaaGreatZB10
import Derived.Test.YtngmcghmniakeaaGreatZB33
import Derived.Deep.OwnRows
import Derived.Lib.AppendStr
namespace Go.Proofs.YtngmcghmniakeaaGreat
open Go.RowKit Go.Maps
set_option linter.unusedSimpArgs false
set_option linter.unusedVariables false
end Go.Proofs.YtngmcghmniakeaaGreat

namespace Go.Proofs.YtngmcghmniakeaaGreat
open Go.RowKit Go.Maps
set_option linter.unusedSimpArgs false
set_option linter.unusedVariables false
end Go.Proofs.YtngmcghmniakeaaGreat

namespace Go.Proofs.YtngmcghmniakeaaGreat
open Go.RowKit Go.Maps
set_option linter.unusedSimpArgs false
set_option linter.unusedVariables false
/-- A row of ints of the call's own. -/
def OwnI (w : World) (v : Value) (ps : List Int) : Prop := w.ownsRow 0 3 1 v ps.length (ps.map (Value.int .i64))

theorem OwnI.nil (w : World) : OwnI w (.slice none 0 0) [] := World.ownsRow_nil w 0 _ 1
theorem OwnI.lt {w : World} {v : Value} {ps : List Int} (h : OwnI w v ps) {g : Nat} (hg : v.ownBlock = some g) : g < w.heap.size := (World.ownsRow.lt h g hg).2
theorem OwnI.kept {w w' : World} {v : Value} {ps : List Int} (h : OwnI w v ps) (hk : ∀ g, v.ownBlock = some g → w'.heap[g]? = w.heap[g]?) : OwnI w' v ps := by
  refine ⟨h.1, ?_⟩
  rcases h.2 with h0 | ⟨g, cap, cur, e, h3, h4, h5⟩
  · exact .inl h0
  · exact .inr ⟨g, cap, cur, e, h3, (hk g (by rw [e]; rfl)).trans h4, h5⟩
theorem OwnI.slice {w : World} {v : Value} {ps : List Int} (h : OwnI w v ps) : ∃ a cap, v = .slice a ps.length cap ∧ ps.length ≤ cap ∧ cap ≤ maxLen ∧ (0 < ps.length → ∃ g, a = some ⟨g, 0, none⟩) ∧ ∀ g, a = some ⟨g, 0, none⟩ → ∀ i, i < ps.length → w.cell? ⟨g, i, none⟩ = some (.int .i64 (ps.getD i 0)) := by
  rcases h.2 with ⟨e, h0⟩ | ⟨g, cap, cur, e, h3, h4, h5, h6, _⟩
  · refine ⟨none, 0, by rw [e, h0], by omega, by decide, fun h => by omega, fun g hg => by cases hg⟩
  · refine ⟨some ⟨g, 0, none⟩, cap, e, h5, h6, fun _ => ⟨g, rfl⟩, fun g' hg' i hi => ?_⟩
    simp at hg'
    subst hg'
    have := World.ownsRow.cells h (g := g) (by rw [e]; rfl) i (.int .i64 (ps.getD i 0)) (by simp [List.getD, hi])
    have hadd : (⟨g, 0, none⟩ : Addr).add i = ⟨g, i, none⟩ := by unfold Addr.add; split <;> simp_all
    rw [hadd] at this
    exact this

/-- A page, two rows of ints apart from it and from each other, and all that was there. -/
structure LayG (base : Nat) (W0 w : World) (G : Nat → Prop) (B : Nat) (s : St) (v : Value) (ps : List Int) (m : Value) (ms : List Int) : Prop where
  gb : ∀ k, k < base → G k
  pc : Pc w B G s
  vo : OwnI w v ps
  mo : OwnI w m ms
  vg : ∀ g, v.ownBlock = some g → G g ∧ base ≤ g ∧ m.ownBlock ≠ some g
  mg : ∀ g, m.ownBlock = some g → G g
  be : Below base W0 w

theorem LayG.next {base : Nat} {W0 w u : World} {G : Nat → Prop} {B : Nat} {s s' : St} {v m : Value} {ps ms : List Int} (h : LayG base W0 w G B s v ps m ms) (hP : Pc u B G s') (hK : Keep G w u) : LayG base W0 u G B s' v ps m ms :=
  ⟨h.gb, hP, h.vo.kept (fun g hg => hK.block g (h.vg g hg).1), h.mo.kept (fun g hg => hK.block g (h.mg g hg)), h.vg, h.mg, h.be.trans (hK.below h.gb)⟩
theorem LayG.base_le {base : Nat} {W0 w : World} {G : Nat → Prop} {B : Nat} {s : St} {v m : Value} {ps ms : List Int} (h : LayG base W0 w G B s v ps m ms) : base ≤ w.heap.size := by
  rcases Nat.lt_or_ge w.heap.size base with h1 | h1
  · have := h.pc.1 w.heap.size (h.gb _ h1)
    omega
  · exact h1
theorem LayG.below {base : Nat} {W0 w u : World} {G : Nat → Prop} {B : Nat} {s : St} {v m : Value} {ps ms : List Int} (h : LayG base W0 w G B s v ps m ms) (hb : Below w.heap.size w u) : LayG base W0 u G B s v ps m ms :=
  ⟨h.gb, h.pc.below hb, h.vo.kept (fun g hg => hb.block g (h.vo.lt hg)), h.mo.kept (fun g hg => hb.block g (h.mo.lt hg)), h.vg, h.mg, h.be.trans (hb.mono h.base_le)⟩
/-- The rows change their parts. -/
theorem LayG.app {base : Nat} {W0 w u : World} {G : Nat → Prop} {B : Nat} {s : St} {v v' m : Value} {ps ps' ms : List Int} (h : LayG base W0 w G B s v ps m ms) (hown : OwnI u v' ps') (hgr : w.grownBy u v.ownBlock) (hat : v'.ownBlock = v.ownBlock ∨ v'.ownBlock = some w.heap.size) :
    LayG base W0 u (fun k => G k ∨ v'.ownBlock = some k) B s v' ps' m ms := by
  have hst : ∀ k, k < w.heap.size → ¬ G k → u.heap[k]? = w.heap[k]? := fun k hk hG => hgr.block k hk (fun e => hG (h.vg k e.symm).1)
  refine ⟨fun k hk => .inl (h.gb k hk), ?_, hown, ?_, ?_, fun g hg => .inl (h.mg g hg), ?_⟩
  · refine h.pc.guard_new hgr.size hst ?_
    rintro k (hk | hk)
    · exact ⟨Nat.lt_of_lt_of_le (h.pc.1 k hk) hgr.size, fun _ => hk⟩
    · refine ⟨hown.lt hk, fun hlt => ?_⟩
      rcases hat with hat | hat
      · exact (h.vg k (by rw [← hat]; exact hk)).1
      · rw [hat] at hk; simp at hk; omega
  · exact h.mo.kept (fun g hg => hgr.block g (h.mo.lt hg) (fun e => (h.vg g e.symm).2.2 hg))
  · intro g hg
    rcases hat with hat | hat
    · have := h.vg g (by rw [← hat]; exact hg)
      exact ⟨.inl this.1, this.2⟩
    · rw [hat] at hg
      simp at hg
      subst hg
      refine ⟨.inr hat, h.base_le, fun e => ?_⟩
      have := h.mo.lt e
      omega
  · exact h.be.grown hgr h.base_le (fun k hk => (h.vg k hk).2.1)

end Go.Proofs.YtngmcghmniakeaaGreat

namespace Go.Proofs.YtngmcghmniakeaaGreat
open Go.RowKit Go.Maps
set_option linter.unusedSimpArgs false
set_option linter.unusedVariables false
/-- A row of ints, no block of which lies in G. -/
def RowI (w : World) (G : Nat → Prop) (v : Value) (ps : List Int) : Prop := OwnI w v ps ∧ ∀ g, v.ownBlock = some g → ¬ G g
theorem RowI.stay {w w' : World} {G : Nat → Prop} {v : Value} {ps : List Int} (h : RowI w G v ps) (hb : ∀ k, k < w.heap.size → ¬ G k → w'.heap[k]? = w.heap[k]?) : RowI w' G v ps :=
  ⟨h.1.kept (fun g hg => hb g (h.1.lt hg) (h.2 g hg)), h.2⟩
theorem OwnI.ne {w : World} {v : Value} {ps : List Int} (h : OwnI w v ps) {B : Nat} {cs : Array Value} {t : TypeId} {f : Nat × Nat} (hB : w.heap[B]? = some (.cells cs t f)) (ht : t ≠ 3) : v.ownBlock ≠ some B := by
  rcases h.2 with ⟨rfl, _⟩ | ⟨g, cap, cur, rfl, h3, h4, h5⟩
  · intro e; cases e
  · intro e
    simp only [Value.ownBlock, Option.some.injEq] at e
    subst e
    rw [h4] at hB
    simp at hB
    exact ht hB.2.1.symm
theorem RowI.off {w w' : World} {G : Nat → Prop} {v : Value} {ps : List Int} (h : RowI w G v ps) {B : Nat} {cs : Array Value} {t : TypeId} {f : Nat × Nat} (hB : w.heap[B]? = some (.cells cs t f)) (ht : t ≠ 3)
    (hb : ∀ k, k < w.heap.size → k ≠ B → w'.heap[k]? = w.heap[k]?) : RowI w' G v ps :=
  ⟨h.1.kept (fun g hg => hb g (h.1.lt hg) (fun e => h.1.ne hB ht (e ▸ hg))), h.2⟩
/-- A row of bytes and a row of ints lie apart. -/
theorem Row.ne_ints {w : World} {G G' : Nat → Prop} {u v : Value} {xs : List Nat} {ps : List Int} (h : Row w G u xs) (h' : OwnI w v ps) {g : Nat} (hu : u.ownBlock = some g) : v.ownBlock ≠ some g := by
  intro hv
  rcases h'.2 with ⟨rfl, _⟩ | ⟨k, cap, cur, rfl, h3, h4, h5⟩
  · cases hv
  · simp only [Value.ownBlock, Option.some.injEq] at hv
    subst hv
    exact h.ne h4 (by decide) hu
theorem RowI.grown {w w' : World} {G G' : Nat → Prop} {u v : Value} {xs : List Nat} {ps : List Int} (h : RowI w G v ps) (hr : Row w G' u xs) (hg : w.grownBy w' u.ownBlock) : RowI w' G v ps :=
  ⟨h.1.kept (fun g hv => hg.block g (h.1.lt hv) (fun e => hr.ne_ints (G' := G') h.1 e.symm hv)), h.2⟩
end Go.Proofs.YtngmcghmniakeaaGreat

namespace Go.Proofs.YtngmcghmniakeaaGreat
open Go.RowKit Go.Maps
set_option linter.unusedSimpArgs false
set_option linter.unusedVariables false
end Go.Proofs.YtngmcghmniakeaaGreat
