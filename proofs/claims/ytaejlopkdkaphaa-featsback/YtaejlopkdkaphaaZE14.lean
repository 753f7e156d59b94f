/-
  Rows of ints beside a page (LayG).
  foundryref04.Page: how a page of the reference lies in a world (Ps); done, Big: the walks.
  Laws on append for the pages of the reference; a page whose bytes have grown.
  foundryref04.Page: put, Put8, Put16, Put32, PutBytes, PutTag, Pad, All: the walks.
  Pages: what is put, in plain words; new pages.
-/
import Derived.Test.YtaejlopkdkaphaaZE13
import Derived.Deep.OwnRows
import Derived.Test.YtaejlopkdkaphaaZE10
import Derived.Lib.AppendStr
import Derived.Test.YtaejlopkdkaphaaZE3
namespace Go.Proofs.Ytaejlopkdkaphaa
open Go.RowKit Go.Maps
set_option linter.unusedSimpArgs false
set_option linter.unusedVariables false

theorem info_i64 : (Try.prog.info? 3).map (fun i => (i.zero, i.size, i.bytes)) = some (some (.int .i64 0), 1, 8) := by kernel_rfl

theorem Hid_mk' {p : Prop} (h : p) : Hid p := h

/-- A row of ints of the call's own. -/
def OwnI (w : World) (v : Value) (ps : List Int) : Prop := w.ownsRow 0 3 1 v ps.length (ps.map (Value.int .i64))

theorem OwnI.nil (w : World) : OwnI w (.slice none 0 0) [] := World.ownsRow_nil w 0 _ 1
theorem OwnI.lt {w : World} {v : Value} {ps : List Int} (h : OwnI w v ps) {g : Nat} (hg : v.ownBlock = some g) : g < w.heap.size := (World.ownsRow.lt h g hg).2
theorem OwnI.kept {w w' : World} {v : Value} {ps : List Int} (h : OwnI w v ps) (hk : ∀ g, v.ownBlock = some g → w'.heap[g]? = w.heap[g]?) : OwnI w' v ps := by
  refine ⟨h.1, ?_⟩
  rcases h.2 with h0 | ⟨g, cap, cur, e, h3, h4, h5⟩
  · exact .inl h0
  · exact .inr ⟨g, cap, cur, e, h3, (hk g (by rw [e]; rfl)).trans h4, h5⟩
theorem OwnI.slice {w : World} {v : Value} {ps : List Int} (h : OwnI w v ps) : ∃ a cap, v = .slice a ps.length cap ∧ ps.length ≤ cap ∧ cap ≤ maxLen ∧ (0 < ps.length → ∃ g, a = some ⟨g, 0, none⟩) ∧ ∀ g, a = some ⟨g, 0, none⟩ → ∀ i, i < ps.length → w.cell? ⟨g, i, none⟩ = some (.int .i64 (ps.getD i 0)) := by
  rcases h.2 with ⟨e, h0⟩ | ⟨g, cap, cur, e, h3, h4, h5, h6, _⟩
  · refine ⟨none, 0, by rw [e, h0], by omega, by decide, fun h => by omega, fun g hg => by cases hg⟩
  · refine ⟨some ⟨g, 0, none⟩, cap, e, h5, h6, fun _ => ⟨g, rfl⟩, fun g' hg' i hi => ?_⟩
    simp at hg'
    subst hg'
    have := World.ownsRow.cells h (g := g) (by rw [e]; rfl) i (.int .i64 (ps.getD i 0)) (by simp [List.getD, hi])
    have hadd : (⟨g, 0, none⟩ : Addr).add i = ⟨g, i, none⟩ := by unfold Addr.add; split <;> simp_all
    rw [hadd] at this
    exact this

/-- A page, two rows of ints apart from it and from each other, and all that was there. -/
structure LayG (base : Nat) (W0 w : World) (G : Nat → Prop) (B : Nat) (s : St) (v : Value) (ps : List Int) (m : Value) (ms : List Int) : Prop where
  gb : ∀ k, k < base → G k
  pc : Pc w B G s
  vo : OwnI w v ps
  mo : OwnI w m ms
  vg : ∀ g, v.ownBlock = some g → G g ∧ base ≤ g ∧ m.ownBlock ≠ some g
  mg : ∀ g, m.ownBlock = some g → G g
  be : Below base W0 w

theorem LayG.next {base : Nat} {W0 w u : World} {G : Nat → Prop} {B : Nat} {s s' : St} {v m : Value} {ps ms : List Int} (h : LayG base W0 w G B s v ps m ms) (hP : Pc u B G s') (hK : Keep G w u) : LayG base W0 u G B s' v ps m ms :=
  ⟨h.gb, hP, h.vo.kept (fun g hg => hK.block g (h.vg g hg).1), h.mo.kept (fun g hg => hK.block g (h.mg g hg)), h.vg, h.mg, h.be.trans (hK.below h.gb)⟩
theorem LayG.base_le {base : Nat} {W0 w : World} {G : Nat → Prop} {B : Nat} {s : St} {v m : Value} {ps ms : List Int} (h : LayG base W0 w G B s v ps m ms) : base ≤ w.heap.size := by
  rcases Nat.lt_or_ge w.heap.size base with h1 | h1
  · have := h.pc.1 w.heap.size (h.gb _ h1)
    omega
  · exact h1
theorem LayG.below {base : Nat} {W0 w u : World} {G : Nat → Prop} {B : Nat} {s : St} {v m : Value} {ps ms : List Int} (h : LayG base W0 w G B s v ps m ms) (hb : Below w.heap.size w u) : LayG base W0 u G B s v ps m ms :=
  ⟨h.gb, h.pc.below hb, h.vo.kept (fun g hg => hb.block g (h.vo.lt hg)), h.mo.kept (fun g hg => hb.block g (h.mo.lt hg)), h.vg, h.mg, h.be.trans (hb.mono h.base_le)⟩
/-- The rows change their parts. -/
theorem LayG.app {base : Nat} {W0 w u : World} {G : Nat → Prop} {B : Nat} {s : St} {v v' m : Value} {ps ps' ms : List Int} (h : LayG base W0 w G B s v ps m ms) (hown : OwnI u v' ps') (hgr : w.grownBy u v.ownBlock) (hat : v'.ownBlock = v.ownBlock ∨ v'.ownBlock = some w.heap.size) :
    LayG base W0 u (fun k => G k ∨ v'.ownBlock = some k) B s v' ps' m ms := by
  have hst : ∀ k, k < w.heap.size → ¬ G k → u.heap[k]? = w.heap[k]? := fun k hk hG => hgr.block k hk (fun e => hG (h.vg k e.symm).1)
  refine ⟨fun k hk => .inl (h.gb k hk), ?_, hown, ?_, ?_, fun g hg => .inl (h.mg g hg), ?_⟩
  · refine h.pc.guard_new hgr.size hst ?_
    rintro k (hk | hk)
    · exact ⟨Nat.lt_of_lt_of_le (h.pc.1 k hk) hgr.size, fun _ => hk⟩
    · refine ⟨hown.lt hk, fun hlt => ?_⟩
      rcases hat with hat | hat
      · exact (h.vg k (by rw [← hat]; exact hk)).1
      · rw [hat] at hk; simp at hk; omega
  · exact h.mo.kept (fun g hg => hgr.block g (h.mo.lt hg) (fun e => (h.vg g e.symm).2.2 hg))
  · intro g hg
    rcases hat with hat | hat
    · have := h.vg g (by rw [← hat]; exact hg)
      exact ⟨.inl this.1, this.2⟩
    · rw [hat] at hg
      simp at hg
      subst hg
      refine ⟨.inr hat, h.base_le, fun e => ?_⟩
      have := h.mo.lt e
      omega
  · exact h.be.grown hgr h.base_le (fun k hk => (h.vg k hk).2.1)

/-- 'append(v, x)'. -/
theorem wpList_append_i {w : World} {ops : Array Oper} {rest : List Oper} {o : Oper} {a : Act} {Q : Exit → Act → World → Prop} (hgd : o.guard = none) (sx x : Operand) (ho : o.op = .call { callee := .builtin .append, args := #[sx, x], argTypes := #[26, 26] })
    {base : Nat} {W0 : World} {G : Nat → Prop} {B : Nat} {s : St} {v m : Value} {ps ms : List Int} (z : Int) (hL : LayG base W0 w G B s v ps m ms) (hs : a.eval sx = v)
    (gx : Nat) (hx : a.eval x = .slice (some ⟨gx, 0, none⟩) 1 1) (hc : w.cell? ⟨gx, 0, none⟩ = some (.int .i64 z)) (hlen : ps.length + 1 ≤ 2000000000)
    (h : ∀ v' w' G', LayG base W0 w' G' B s v' (ps ++ [z]) m ms → wpList Try.prog ops Q rest (a.put o.dst v') w') : wpList Try.prog ops Q (o :: rest) a w := by
  obtain ⟨i0, hi, hz0, hz1, hz2⟩ := info_parts info_i64
  refine wpList_append_own_at w hgd sx x 26 ho 0 3 i0 (.int .i64 0) 1 8 Try.underlying26 hi hz0 hz1 hz2 rfl (by decide) v ps.length (ps.map (Value.int .i64)) hs hL.vo ⟨gx, 0, none⟩ 1 1 [.int .i64 z] hx rfl ?_ ?_ (by unfold maxLen; omega) (by omega) (Nat.zero_le _) ?_
  · intro j u hj
    match j, hj with
    | 0, hj => simp at hj; subst hj; simpa [Addr.add] using hc
  · intro u hu
    simp at hu
    subst hu
    rfl
  · intro v' w' h1 h2 _ h4
    refine h v' w' _ (hL.app ?_ h2 h4)
    simpa [OwnI] using h1

end Go.Proofs.Ytaejlopkdkaphaa

namespace Go.Proofs.Ytaejlopkdkaphaa
open Go.RowKit Go.Maps
set_option linter.unusedSimpArgs false
set_option linter.unusedVariables false
/-- A row of ints, no block of which lies in G. -/
def RowI (w : World) (G : Nat → Prop) (v : Value) (ps : List Int) : Prop := OwnI w v ps ∧ ∀ g, v.ownBlock = some g → ¬ G g
theorem RowI.stay {w w' : World} {G : Nat → Prop} {v : Value} {ps : List Int} (h : RowI w G v ps) (hb : ∀ k, k < w.heap.size → ¬ G k → w'.heap[k]? = w.heap[k]?) : RowI w' G v ps :=
  ⟨h.1.kept (fun g hg => hb g (h.1.lt hg) (h.2 g hg)), h.2⟩
theorem OwnI.ne {w : World} {v : Value} {ps : List Int} (h : OwnI w v ps) {B : Nat} {cs : Array Value} {t : TypeId} {f : Nat × Nat} (hB : w.heap[B]? = some (.cells cs t f)) (ht : t ≠ 3) : v.ownBlock ≠ some B := by
  rcases h.2 with ⟨rfl, _⟩ | ⟨g, cap, cur, rfl, h3, h4, h5⟩
  · intro e; cases e
  · intro e
    simp only [Value.ownBlock, Option.some.injEq] at e
    subst e
    rw [h4] at hB
    simp at hB
    exact ht hB.2.1.symm
theorem RowI.off {w w' : World} {G : Nat → Prop} {v : Value} {ps : List Int} (h : RowI w G v ps) {B : Nat} {cs : Array Value} {t : TypeId} {f : Nat × Nat} (hB : w.heap[B]? = some (.cells cs t f)) (ht : t ≠ 3)
    (hb : ∀ k, k < w.heap.size → k ≠ B → w'.heap[k]? = w.heap[k]?) : RowI w' G v ps :=
  ⟨h.1.kept (fun g hg => hb g (h.1.lt hg) (fun e => h.1.ne hB ht (e ▸ hg))), h.2⟩
/-- A row of bytes and a row of ints lie apart. -/
theorem Row.ne_ints {w : World} {G G' : Nat → Prop} {u v : Value} {xs : List Nat} {ps : List Int} (h : Row w G u xs) (h' : OwnI w v ps) {g : Nat} (hu : u.ownBlock = some g) : v.ownBlock ≠ some g := by
  intro hv
  rcases h'.2 with ⟨rfl, _⟩ | ⟨k, cap, cur, rfl, h3, h4, h5⟩
  · cases hv
  · simp only [Value.ownBlock, Option.some.injEq] at hv
    subst hv
    exact h.ne h4 (by decide) hu
theorem RowI.grown {w w' : World} {G G' : Nat → Prop} {u v : Value} {xs : List Nat} {ps : List Int} (h : RowI w G v ps) (hr : Row w G' u xs) (hg : w.grownBy w' u.ownBlock) : RowI w' G v ps :=
  ⟨h.1.kept (fun g hv => hg.block g (h.1.lt hv) (fun e => hr.ne_ints (G' := G') h.1 e.symm hv)), h.2⟩
theorem Row.grownI {w w' : World} {G : Nat → Prop} {u v : Value} {xs : List Nat} {ps : List Int} (h : Row w G u xs) (hr : OwnI w v ps) (hg : w.grownBy w' v.ownBlock) : Row w' G u xs := by
  refine ⟨h.1.kept hg ?_, h.2⟩
  rcases hb : u.ownBlock with _ | g
  · exact .inl rfl
  · exact .inr (fun e => h.ne_ints (G' := G) hr hb e.symm)
set_option maxHeartbeats 1000000 in
set_option maxRecDepth 100000 in
theorem big1_any (x : Int) (w : World) (hx : 0 ≤ x) (hx2 : x ≤ 9223372036854775807) :
    Calls Try.prog 43 #[.int .i64 x, .int .i64 1] w fun e w' => ∃ a cap, e = .returned (.slice a (be1 x).length cap) ∧ Rb w' a cap (be1 x) ∧ Below w.heap.size w w' := by
  have hmk : ∀ w, (Instr.makeSlice 34 (.int .i64 1) (.int .i64 1)).run Try.prog w = .ok (.slice (some ⟨w.heap.size, 0, none⟩) 1 1) (w.alloc (.cells #[.int .u8 0] 5)) := by
    intro w
    have h := run_make_row' (P := Try.prog) 34 5 (.int .u8 0) 1 Try.underlying34 info_byte rfl .i64 .i64 1 (by decide) (by decide) w
    rw [show madeCells #[Value.int IntKind.u8 0] 1 = #[.int .u8 0] by kernel_rfl] at h
    exact h
  go_enter Try.func43, Try.ntmps43
  go_wp2
  refine wp_loop_rounds 2 ?_
  rw [rounds_succ]
  go_wp2
  rw [rounds_succ]
  go_wp2
  go_ret
  refine ⟨_, _, rfl, rb_new w 5 (be1 x) _ ?_ (byt_be1 x) (by simp [be1, maxLen]), bl1 _⟩
  simp only [be1, List.map_cons, List.map_nil, Y]
  simp
  omega

set_option maxHeartbeats 1000000 in
set_option maxRecDepth 100000 in
theorem big2_any (x : Int) (w : World) (hx : 0 ≤ x) (hx2 : x ≤ 9223372036854775807) :
    Calls Try.prog 43 #[.int .i64 x, .int .i64 2] w fun e w' => ∃ a cap, e = .returned (.slice a (be2 x).length cap) ∧ Rb w' a cap (be2 x) ∧ Below w.heap.size w w' := by
  have hmk : ∀ w, (Instr.makeSlice 34 (.int .i64 2) (.int .i64 2)).run Try.prog w = .ok (.slice (some ⟨w.heap.size, 0, none⟩) 2 2) (w.alloc (.cells #[.int .u8 0, .int .u8 0] 5)) := by
    intro w
    have h := run_make_row' (P := Try.prog) 34 5 (.int .u8 0) 1 Try.underlying34 info_byte rfl .i64 .i64 2 (by decide) (by decide) w
    rw [show madeCells #[Value.int IntKind.u8 0] 2 = #[.int .u8 0, .int .u8 0] by kernel_rfl] at h
    exact h
  go_enter Try.func43, Try.ntmps43
  go_wp2
  refine wp_loop_rounds 3 ?_
  rw [rounds_succ]
  go_wp2
  rw [rounds_succ]
  go_wp2
  rw [rounds_succ]
  go_wp2
  go_ret
  refine ⟨_, _, rfl, rb_new w 5 (be2 x) _ ?_ (byt_be2 x) (by simp [be2, maxLen]), bl1 _⟩
  simp only [be2, List.map_cons, List.map_nil, Y]
  simp
  omega

set_option maxHeartbeats 1000000 in
set_option maxRecDepth 100000 in
theorem big4_any (x : Int) (w : World) (hx : 0 ≤ x) (hx2 : x ≤ 9223372036854775807) :
    Calls Try.prog 43 #[.int .i64 x, .int .i64 4] w fun e w' => ∃ a cap, e = .returned (.slice a (be4 x).length cap) ∧ Rb w' a cap (be4 x) ∧ Below w.heap.size w w' := by
  have hmk : ∀ w, (Instr.makeSlice 34 (.int .i64 4) (.int .i64 4)).run Try.prog w = .ok (.slice (some ⟨w.heap.size, 0, none⟩) 4 4) (w.alloc (.cells #[.int .u8 0, .int .u8 0, .int .u8 0, .int .u8 0] 5)) := by
    intro w
    have h := run_make_row' (P := Try.prog) 34 5 (.int .u8 0) 1 Try.underlying34 info_byte rfl .i64 .i64 4 (by decide) (by decide) w
    rw [show madeCells #[Value.int IntKind.u8 0] 4 = #[.int .u8 0, .int .u8 0, .int .u8 0, .int .u8 0] by kernel_rfl] at h
    exact h
  go_enter Try.func43, Try.ntmps43
  go_wp2
  refine wp_loop_rounds 5 ?_
  rw [rounds_succ]
  go_wp2
  rw [rounds_succ]
  go_wp2
  rw [rounds_succ]
  go_wp2
  rw [rounds_succ]
  go_wp2
  rw [rounds_succ]
  go_wp2
  go_ret
  refine ⟨_, _, rfl, rb_new w 5 (be4 x) _ ?_ (byt_be4 x) (by simp [be4, maxLen]), bl1 _⟩
  simp only [be4, List.map_cons, List.map_nil, Y]
  simp
  omega

end Go.Proofs.Ytaejlopkdkaphaa

namespace Go.Proofs.Ytaejlopkdkaphaa
open Go.RowKit Go.Maps
set_option linter.unusedSimpArgs false
set_option linter.unusedVariables false

/-- .. as 'hTake', 'hCons' of <Name>Reg, for regions under no fact that is held. -/
theorem aTake {P : Program} {md : Region.Mode} {l : List Oper} {Q : Exit → Act → World → Prop} {i : Nat} {o : Oper} {v : Value} {fuel : Nat} {listed : Array Bool} {a : Act} {w : World} (hi : nth l i = some o)
    (hs : Region.noSelect l.toArray = true) (hf : Region.free md l.toArray listed i = true) (hr : (Region.ready md l.toArray listed).contains i = true)
    (hQ : ∀ c a w, Q (.panic c) (a.put o.dst v) w → Q (.panic c) a w) (hy : Yields P l.toArray o v a)
    (h : wpAny P md l.toArray Q fuel (listed.setIfInBounds i true) (a.put o.dst v) w) : wpAny P md l.toArray Q (fuel + 1) listed a w :=
  wpAny_take ((nth_eq l i).symm.trans hi) hs hf hr hQ hy h
theorem aCons {P : Program} {md : Region.Mode} {l : List Oper} {Q : Exit → Act → World → Prop} {i : Nat} {o : Oper} {fuel : Nat} {listed : Array Bool} {a : Act} {w : World} {rs : List Nat} (hi : nth l i = some o)
    (hw : Region.wanted o (yielded l.toArray a.tmps) = true)
    (h : ∀ K : Act → World → Prop, Shut (∀ a w, wpAny P md l.toArray Q fuel (listed.setIfInBounds i true) a w → K a w) → Oper.wp P o a w K Q)
    (hs : AllReady P md l.toArray Q fuel listed a w rs) : AllReady P md l.toArray Q fuel listed a w (i :: rs) :=
  AllReady.cons ((nth_eq l i).symm.trans hi) (fun K hK => by rw [if_pos hw]; exact h K hK) hs
theorem drewRegion {P : Program} {ops : Array Oper} {Q : Exit → Act → World → Prop} {id : Nat} {a : Act} {w : World} (hm : P.follows .mixedOrders = true)
    (h : wpAny P .any ops Q ops.size (Array.replicate ops.size false) a w.drew) : (Code.region id ops true).wp P Q a w := wp_region_any hm h

/-- 'append(out, src...)' as one operation: src is read and isn't empty, out is the call's own. -/
theorem wp_append_rb {P : Program} {w : World} {o : Oper} {a : Act} {K : Act → World → Prop} {Q : Exit → Act → World → Prop} (s x : Operand) (t : TypeId) (ho : o.op = .call { callee := .builtin .append, args := #[s, x], argTypes := #[t, t] })
    (e : TypeId) (i : TypeInfo) (ht : P.underlying t = some (.slice e)) (hi : P.info? e = some i) (hz : i.zero = some (.int .u8 0)) (hsize : i.size = 1) (hby : i.bytes = 1)
    (v : Value) (n : Nat) (ys : List Nat) (hs : a.eval s = v) (hown : w.ownsRow 0 e 1 v n (ys.map Y))
    (ad : Option Addr) (c m : Nat) (zs : List Nat) (hx : a.eval x = .slice ad m c) (hm : m = zs.length) (hne : zs ≠ []) (hrd : Rb w ad c zs) (hlen : n + zs.length ≤ 2000000000)
    (h : ∀ v' w', w'.ownsRow 0 e 1 v' (n + zs.length) ((ys ++ zs).map Y) → w.grownBy w' v.ownBlock → (v'.ownBlock = v.ownBlock ∨ v'.ownBlock = some w.heap.size) → K (a.put o.dst v') w') : o.wp P a w K Q := by
  subst hm
  rcases hrd.fm with h0 | ⟨b, off, rfl, hb, hc⟩
  · exact absurd h0 hne
  · obtain ⟨v', w', hr, h2, h3, h4, h5⟩ := run_append_own_at (P := P) w 0 t o.type e i (.int .u8 0) 1 1 ht hi hz hsize hby rfl (by decide) v n (ys.map Y) hown ⟨b, off, none⟩ zs.length c (zs.map Y) (by simp) (by
      intro j u hj
      have hjl : j < zs.length := by
        rcases Nat.lt_or_ge j zs.length with h1 | h1
        · exact h1
        · rw [List.getElem?_eq_none (by simpa using h1)] at hj; cases hj
      have hadd : (⟨b, off, none⟩ : Addr).add j = ⟨b, off + j, none⟩ := by unfold Addr.add; split <;> simp_all
      rw [hadd, hc j hjl]
      rw [List.getElem?_map, List.getElem?_eq_getElem hjl] at hj
      simp at hj
      rw [← hj]
      simp [List.getD, hjl, Y]) (oneCell_Y zs) (by unfold maxLen; omega) (by omega) (Nat.zero_le _)
    unfold Oper.wp execOp
    simp only [ho, resolve, invoke, builtin, Sem.run_bind, Sem.run_pure, Result.andThen_ok, List.map_toArray, List.map_cons, List.map_nil, hs, hx, hr]
    exact h v' w' (by rw [List.map_append]; exact h2) h3 h5

/-- 'append(out, text...)': where the new slice lies. -/
theorem wpList_append_str {P : Program} {w : World} {ops : Array Oper} {rest : List Oper} {o : Oper} {a : Act} {Q : Exit → Act → World → Prop} (hgd : o.guard = none) (sl x : Operand) (t u : TypeId)
    (ho : o.op = .call { callee := .builtin .append, args := #[sl, x], argTypes := #[t, u] })
    (e : TypeId) (i : TypeInfo) (ht : P.underlying t = some (.slice e)) (hu : P.underlying u = some .string) (hi : P.info? e = some i) (hz : i.zero = some (.int .u8 0))
    (hsize : i.size = 1) (hby : i.bytes = 1)
    (v : Value) (n : Nat) (ys : List Nat) (hs : a.eval sl = v) (hown : w.ownsRow 0 e 1 v n (ys.map Y)) (s : ByteArray) (hx : a.eval x = .string s) (hlen : n + s.size ≤ 2000000000)
    (h : ∀ v' w', w'.ownsRow 0 e 1 v' (n + s.size) ((ys ++ sb s).map Y) → w.grownBy w' v.ownBlock → (v'.ownBlock = v.ownBlock ∨ v'.ownBlock = some w.heap.size) → wpList P ops Q rest (a.put o.dst v') w') : wpList P ops Q (o :: rest) a w := by
  refine wpList_plain hgd fun K hK => ?_
  obtain ⟨v', w', hr, h2, h3, h4⟩ := Lib.run_append_own_string (P := P) w 0 t u o.type e i ht hu hi hz hsize hby v n (ys.map Y) hown s (by unfold maxLen; omega) (by omega) (Nat.zero_le _)
  have hat : v'.ownBlock = v.ownBlock ∨ v'.ownBlock = some w.heap.size := by
    rcases hown.2 with ⟨rfl, rfl⟩ | ⟨g, cap, cur, rfl, hbg, hg, hnc, hcm, hcs, htake⟩
    · by_cases hm : s.size = 0
      · have := h4.2 ⟨rfl, hm⟩
        subst this
        exact .inl rfl
      · have hr' := run_append_nil_string (P := P) w t u o.type e i (.int .u8 0) ht hu hi hz s (by omega) (by omega) (by rw [hby]; omega)
        rw [hr'] at hr
        injection hr with e1 e2
        subst e1
        exact .inr rfl
    · by_cases hroom : n + s.size ≤ cap
      · have hr' := Lib.run_append_room_string (P := P) w t u o.type e i ht hu hi hsize g n cap cur hg s hroom (by simp at hcs; omega)
        rw [hr'] at hr
        injection hr with e1 e2
        subst e1
        exact .inl rfl
      · have holds : ∀ j u, (ys.map Y)[j]? = some u → w.cell? ((⟨g, 0, none⟩ : Addr).add j) = some u := hown.cells (g := g) rfl
        have hr' := Lib.run_append_grow_string (P := P) w t u o.type e i (.int .u8 0) ht hu hi hz ⟨g, 0, none⟩ n cap (ys.map Y) (by rw [hsize]; have := hown.1; omega) holds s (by omega) (by omega) (by rw [hby]; exact growslice_fits (by omega) (by omega))
        rw [hr'] at hr
        injection hr with e1 e2
        subst e1
        exact .inr rfl
  unfold Oper.wp execOp
  simp only [ho, resolve, invoke, builtin, Sem.run_bind, Sem.run_pure, Result.andThen_ok, List.map_toArray, List.map_cons, List.map_nil, hs, hx, hr]
  refine hK _ _ (h v' w' ?_ h3 hat)
  rw [List.map_append]
  have e1 : (sb s).map Y = Lib.strCells s := by
    simp only [sb, Lib.strCells, List.map_map]
    rfl
  rw [e1]
  exact h2

end Go.Proofs.Ytaejlopkdkaphaa

namespace Go.Proofs.Ytaejlopkdkaphaa
open Go.RowKit Go.Maps
set_option linter.unusedSimpArgs false
set_option linter.unusedVariables false
theorem per1 (x : Int) : be1 (x + (255 + 1)) = be1 x := by
  simp only [be1, List.cons.injEq, and_true]
  omega
theorem per2 (x : Int) : be2 (x + (65535 + 1)) = be2 x := by
  simp only [be2, List.cons.injEq, and_true]
  omega
theorem per4 (x : Int) : be4 (x + (4294967295 + 1)) = be4 x := by
  simp only [be4, List.cons.injEq, and_true]
  omega
end Go.Proofs.Ytaejlopkdkaphaa

namespace Go.Proofs.Ytaejlopkdkaphaa
open Go.RowKit Go.Maps
set_option linter.unusedSimpArgs false
set_option linter.unusedVariables false

theorem put32A {bs : List Nat} {ws : List Int} {n : Int} (h1 : -2147483648 ≤ n) (h2 : n ≤ 4294967295) : (St.mk bs ws false).put32 n = ⟨bs ++ be4 n, ws, false⟩ := by simp [St.put32, h1, h2, St.app]
theorem put16A {bs : List Nat} {ws : List Int} {n : Int} (h1 : -32768 ≤ n) (h2 : n ≤ 65535) : (St.mk bs ws false).put16 n = ⟨bs ++ be2 n, ws, false⟩ := by simp [St.put16, h1, h2, St.app]
theorem tagA {bs : List Nat} {ws : List Int} {xs : List Nat} (h : gd xs = true) : (St.mk bs ws false).tag xs = ⟨bs ++ xs, ws, false⟩ := by simp [St.tag, h, St.app]
theorem pc_newA (w : World) (G : Nat → Prop) (hG : ∀ k, G k → k < w.heap.size) : Pc (w.alloc (.cells #[.slice none 0 0, .int .i64 0, .map none, .bool false] 66)) w.heap.size G St.zero := by
  refine ⟨fun k hk => by have := hG k hk; simp; omega, fun h => by have := hG _ h; omega, Wf.zero, .slice none 0 0, .map none, heap_alloc_new w _, (fun h => by cases h), fun _ => ⟨⟨World.ownsRow_nil _ 0 _ 1, fun g hg => by cases hg⟩, .inl ⟨rfl, rfl⟩⟩⟩
theorem Pc.moreA {w : World} {B : Nat} {G : Nat → Prop} {s : St} (h : Pc w B G s) (o : Obj) : Pc (w.alloc o) B (fun k => G k ∨ k = w.heap.size) s := by
  refine h.guard_new (by simp) (fun k hk _ => (bl1 o).block k hk) ?_
  rintro k (hk | rfl)
  · exact ⟨by have := h.1 k hk; simp; omega, fun _ => hk⟩
  · exact ⟨by simp, fun hlt => absurd hlt (Nat.lt_irrefl _)⟩

end Go.Proofs.Ytaejlopkdkaphaa
