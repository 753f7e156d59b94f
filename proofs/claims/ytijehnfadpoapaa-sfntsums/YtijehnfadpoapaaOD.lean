/-
  Rows of ints beside a page (LayG).
-/
import Derived.Test.YtijehnfadpoapaaOC
import Derived.Test.YtijehnfadpoapaaOB
namespace Go.Proofs.Ytijehnfadpoapaa
open Go.RowKit Go.Maps
set_option linter.unusedSimpArgs false
set_option linter.unusedVariables false

theorem info_i64 : (Try.prog.info? 3).map (fun i => (i.zero, i.size, i.bytes)) = some (some (.int .i64 0), 1, 8) := by kernel_rfl

theorem Hid_mk' {p : Prop} (h : p) : Hid p := h

/-- A row of ints of the call's own. -/
def OwnI (w : World) (v : Value) (ps : List Int) : Prop := w.ownsRow 0 3 1 v ps.length (ps.map (Value.int .i64))

theorem OwnI.nil (w : World) : OwnI w (.slice none 0 0) [] := World.ownsRow_nil w 0 _ 1
theorem OwnI.lt {w : World} {v : Value} {ps : List Int} (h : OwnI w v ps) {g : Nat} (hg : v.ownBlock = some g) : g < w.heap.size := (World.ownsRow.lt h g hg).2
theorem OwnI.kept {w w' : World} {v : Value} {ps : List Int} (h : OwnI w v ps) (hk : ∀ g, v.ownBlock = some g → w'.heap[g]? = w.heap[g]?) : OwnI w' v ps := by
  refine ⟨h.1, ?_⟩
  rcases h.2 with h0 | ⟨g, cap, cur, e, h3, h4, h5⟩
  · exact .inl h0
  · exact .inr ⟨g, cap, cur, e, h3, (hk g (by rw [e]; rfl)).trans h4, h5⟩
theorem OwnI.slice {w : World} {v : Value} {ps : List Int} (h : OwnI w v ps) : ∃ a cap, v = .slice a ps.length cap ∧ ps.length ≤ cap ∧ cap ≤ maxLen ∧ (0 < ps.length → ∃ g, a = some ⟨g, 0, none⟩) ∧ ∀ g, a = some ⟨g, 0, none⟩ → ∀ i, i < ps.length → w.cell? ⟨g, i, none⟩ = some (.int .i64 (ps.getD i 0)) := by
  rcases h.2 with ⟨e, h0⟩ | ⟨g, cap, cur, e, h3, h4, h5, h6, _⟩
  · refine ⟨none, 0, by rw [e, h0], by omega, by decide, fun h => by omega, fun g hg => by cases hg⟩
  · refine ⟨some ⟨g, 0, none⟩, cap, e, h5, h6, fun _ => ⟨g, rfl⟩, fun g' hg' i hi => ?_⟩
    simp at hg'
    subst hg'
    have := World.ownsRow.cells h (g := g) (by rw [e]; rfl) i (.int .i64 (ps.getD i 0)) (by simp [List.getD, hi])
    have hadd : (⟨g, 0, none⟩ : Addr).add i = ⟨g, i, none⟩ := by unfold Addr.add; split <;> simp_all
    rw [hadd] at this
    exact this

/-- A page, two rows of ints apart from it and from each other, and all that was there. -/
structure LayG (base : Nat) (W0 w : World) (G : Nat → Prop) (B : Nat) (s : St) (v : Value) (ps : List Int) (m : Value) (ms : List Int) : Prop where
  gb : ∀ k, k < base → G k
  pc : Pc w B G s
  vo : OwnI w v ps
  mo : OwnI w m ms
  vg : ∀ g, v.ownBlock = some g → G g ∧ base ≤ g ∧ m.ownBlock ≠ some g
  mg : ∀ g, m.ownBlock = some g → G g
  be : Below base W0 w

theorem LayG.next {base : Nat} {W0 w u : World} {G : Nat → Prop} {B : Nat} {s s' : St} {v m : Value} {ps ms : List Int} (h : LayG base W0 w G B s v ps m ms) (hP : Pc u B G s') (hK : Keep G w u) : LayG base W0 u G B s' v ps m ms :=
  ⟨h.gb, hP, h.vo.kept (fun g hg => hK.block g (h.vg g hg).1), h.mo.kept (fun g hg => hK.block g (h.mg g hg)), h.vg, h.mg, h.be.trans (hK.below h.gb)⟩
theorem LayG.base_le {base : Nat} {W0 w : World} {G : Nat → Prop} {B : Nat} {s : St} {v m : Value} {ps ms : List Int} (h : LayG base W0 w G B s v ps m ms) : base ≤ w.heap.size := by
  rcases Nat.lt_or_ge w.heap.size base with h1 | h1
  · have := h.pc.1 w.heap.size (h.gb _ h1)
    omega
  · exact h1
theorem LayG.below {base : Nat} {W0 w u : World} {G : Nat → Prop} {B : Nat} {s : St} {v m : Value} {ps ms : List Int} (h : LayG base W0 w G B s v ps m ms) (hb : Below w.heap.size w u) : LayG base W0 u G B s v ps m ms :=
  ⟨h.gb, h.pc.below hb, h.vo.kept (fun g hg => hb.block g (h.vo.lt hg)), h.mo.kept (fun g hg => hb.block g (h.mo.lt hg)), h.vg, h.mg, h.be.trans (hb.mono h.base_le)⟩
/-- The rows change their parts. -/
theorem LayG.app {base : Nat} {W0 w u : World} {G : Nat → Prop} {B : Nat} {s : St} {v v' m : Value} {ps ps' ms : List Int} (h : LayG base W0 w G B s v ps m ms) (hown : OwnI u v' ps') (hgr : w.grownBy u v.ownBlock) (hat : v'.ownBlock = v.ownBlock ∨ v'.ownBlock = some w.heap.size) :
    LayG base W0 u (fun k => G k ∨ v'.ownBlock = some k) B s v' ps' m ms := by
  have hst : ∀ k, k < w.heap.size → ¬ G k → u.heap[k]? = w.heap[k]? := fun k hk hG => hgr.block k hk (fun e => hG (h.vg k e.symm).1)
  refine ⟨fun k hk => .inl (h.gb k hk), ?_, hown, ?_, ?_, fun g hg => .inl (h.mg g hg), ?_⟩
  · refine h.pc.guard_new hgr.size hst ?_
    rintro k (hk | hk)
    · exact ⟨Nat.lt_of_lt_of_le (h.pc.1 k hk) hgr.size, fun _ => hk⟩
    · refine ⟨hown.lt hk, fun hlt => ?_⟩
      rcases hat with hat | hat
      · exact (h.vg k (by rw [← hat]; exact hk)).1
      · rw [hat] at hk; simp at hk; omega
  · exact h.mo.kept (fun g hg => hgr.block g (h.mo.lt hg) (fun e => (h.vg g e.symm).2.2 hg))
  · intro g hg
    rcases hat with hat | hat
    · have := h.vg g (by rw [← hat]; exact hg)
      exact ⟨.inl this.1, this.2⟩
    · rw [hat] at hg
      simp at hg
      subst hg
      refine ⟨.inr hat, h.base_le, fun e => ?_⟩
      have := h.mo.lt e
      omega
  · exact h.be.grown hgr h.base_le (fun k hk => (h.vg k hk).2.1)

/-- 'append(v, x)'. -/
theorem wpList_append_i {w : World} {ops : Array Oper} {rest : List Oper} {o : Oper} {a : Act} {Q : Exit → Act → World → Prop} (hgd : o.guard = none) (sx x : Operand) (ho : o.op = .call { callee := .builtin .append, args := #[sx, x], argTypes := #[58, 58] })
    {base : Nat} {W0 : World} {G : Nat → Prop} {B : Nat} {s : St} {v m : Value} {ps ms : List Int} (z : Int) (hL : LayG base W0 w G B s v ps m ms) (hs : a.eval sx = v)
    (gx : Nat) (hx : a.eval x = .slice (some ⟨gx, 0, none⟩) 1 1) (hc : w.cell? ⟨gx, 0, none⟩ = some (.int .i64 z)) (hlen : ps.length + 1 ≤ 2000000000)
    (h : ∀ v' w' G', LayG base W0 w' G' B s v' (ps ++ [z]) m ms → wpList Try.prog ops Q rest (a.put o.dst v') w') : wpList Try.prog ops Q (o :: rest) a w := by
  obtain ⟨i0, hi, hz0, hz1, hz2⟩ := info_parts info_i64
  refine wpList_append_own_at w hgd sx x 58 ho 0 3 i0 (.int .i64 0) 1 8 Try.underlying58 hi hz0 hz1 hz2 rfl (by decide) v ps.length (ps.map (Value.int .i64)) hs hL.vo ⟨gx, 0, none⟩ 1 1 [.int .i64 z] hx rfl ?_ ?_ (by unfold maxLen; omega) (by omega) (Nat.zero_le _) ?_
  · intro j u hj
    match j, hj with
    | 0, hj => simp at hj; subst hj; simpa [Addr.add] using hc
  · intro u hu
    simp at hu
    subst hu
    rfl
  · intro v' w' h1 h2 _ h4
    refine h v' w' _ (hL.app ?_ h2 h4)
    simpa [OwnI] using h1

end Go.Proofs.Ytijehnfadpoapaa
