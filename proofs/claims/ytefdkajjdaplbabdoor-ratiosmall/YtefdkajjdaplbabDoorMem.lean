/-
  What is known of a slice of limbs in a world: where it is read (Rd), and where it is a row of the call's own (Res). Two laws on append.
-/
import Derived.Test.YtefdkajjdaplbabDoorPlain
import Derived.WalkKit
import Derived.ProofKit
import Derived.Below
import Derived.Laws.AppendOwnNone
namespace Go.Proofs.YtefdkajjdaplbabDoor
open Go.RowKit
set_option linter.unusedSimpArgs false
set_option linter.unusedVariables false

/-- A limb as a value. -/
def U (n : Nat) : Value := .int .u32 (n : Int)

/-- A slice of limbs: its address and capacity, and the limbs that are read there. -/
def Rd (w : World) (a : Option Addr) (cap : Nat) (xs : List Nat) : Prop :=
  Lim xs ∧ xs.length ≤ cap ∧ cap ≤ maxLen ∧ (a = none → cap = 0) ∧
  (xs = [] ∨ ∃ b off, a = some ⟨b, off, none⟩ ∧ b < w.heap.size ∧ ∀ i, i < xs.length → w.cell? ⟨b, off + i, none⟩ = some (.int .u32 (xs.getD i 0 : Nat)))

theorem Rd.lim {w : World} {a : Option Addr} {cap : Nat} {xs : List Nat} (h : Rd w a cap xs) : Lim xs := h.1
theorem Rd.le {w : World} {a : Option Addr} {cap : Nat} {xs : List Nat} (h : Rd w a cap xs) : xs.length ≤ cap := h.2.1
theorem Rd.cap {w : World} {a : Option Addr} {cap : Nat} {xs : List Nat} (h : Rd w a cap xs) : cap ≤ maxLen := h.2.2.1

/-- Where the limbs lie (a plain name, which no walk looks behind). -/
def Fm (w : World) (a : Option Addr) (xs : List Nat) : Prop :=
  xs = [] ∨ ∃ b off, a = some ⟨b, off, none⟩ ∧ b < w.heap.size ∧ ∀ i, i < xs.length → w.cell? ⟨b, off + i, none⟩ = some (.int .u32 (xs.getD i 0 : Nat))

theorem Rd.fm {w : World} {a : Option Addr} {cap : Nat} {xs : List Nat} (h : Rd w a cap xs) : Fm w a xs := h.2.2.2.2

theorem Fm.at {w wr : World} {a : Option Addr} {xs : List Nat} (h : Fm w a xs) (hb : Below w.heap.size w wr) (k : Nat) (hk : k < xs.length) :
    ∃ b off, a = some ⟨b, off, none⟩ ∧ b < w.heap.size ∧ wr.cell? ⟨b, off + k, none⟩ = some (.int .u32 (xs.getD k 0 : Nat)) := by
  rcases h with rfl | ⟨b, off, h1, h2, h3⟩
  · simp at hk
  · exact ⟨b, off, h1, h2, (hb.cell (p := ⟨b, off + k, none⟩) h2).trans (h3 k hk)⟩

theorem Rd.keep {w w' : World} {a : Option Addr} {cap : Nat} {xs : List Nat} (h : Rd w a cap xs) (hs : w.heap.size ≤ w'.heap.size)
    (hb : ∀ b, b < w.heap.size → (∃ o, a = some ⟨b, o, none⟩) → w'.heap[b]? = w.heap[b]?) : Rd w' a cap xs := by
  obtain ⟨h1, h2, h3, h5, h4⟩ := h
  refine ⟨h1, h2, h3, h5, ?_⟩
  rcases h4 with h4 | ⟨b, off, e, hb1, hc⟩
  · exact .inl h4
  · exact .inr ⟨b, off, e, Nat.lt_of_lt_of_le hb1 hs, fun i hi => (World.cell?_of_block (w := w) (a := ⟨b, off + i, none⟩) (hb b hb1 ⟨off, e⟩)).trans (hc i hi)⟩

theorem Rd.below {w w' : World} {a : Option Addr} {cap : Nat} {xs : List Nat} (h : Rd w a cap xs) (hb : Below w.heap.size w w') : Rd w' a cap xs :=
  h.keep hb.size fun b hb1 _ => hb.block b hb1

theorem Rd.take {w : World} {a : Option Addr} {cap : Nat} {xs : List Nat} (h : Rd w a cap xs) (n : Nat) : Rd w a cap (xs.take n) := by
  obtain ⟨h1, h2, h3, h5, h4⟩ := h
  refine ⟨h1.take n, by simp; omega, h3, h5, ?_⟩
  rcases h4 with rfl | ⟨b, off, e, hb1, hc⟩
  · exact .inl (by simp)
  · refine .inr ⟨b, off, e, hb1, fun i hi => ?_⟩
    simp at hi
    rw [hc i (by omega)]
    simp [List.getD, show i < n by omega]

theorem Rd.strip {w : World} {a : Option Addr} {cap : Nat} {xs : List Nat} (h : Rd w a cap xs) : Rd w a cap (strip xs) := by
  rw [strip_take]; exact h.take _

theorem Rd.nil (w : World) (a : Option Addr) (cap : Nat) (h : cap ≤ maxLen) (h0 : a = none → cap = 0) : Rd w a cap [] := ⟨Lim.nil, Nat.zero_le _, h, h0, .inl rfl⟩

/-- A row of the call's own. -/
def Res (e : TypeId) (base : Nat) (w : World) (a : Option Addr) (cap : Nat) (xs : List Nat) : Prop :=
  Lim xs ∧ w.ownsRow base e 1 (.slice a xs.length cap) xs.length (xs.map U)

theorem Res.lim {e : TypeId} {base : Nat} {w : World} {a : Option Addr} {cap : Nat} {xs : List Nat} (h : Res e base w a cap xs) : Lim xs := h.1

theorem Res.rd {e : TypeId} {base : Nat} {w : World} {a : Option Addr} {cap : Nat} {xs : List Nat} (h : Res e base w a cap xs) : Rd w a cap xs := by
  obtain ⟨hl, h⟩ := h
  rcases h.2 with ⟨hv, h0⟩ | ⟨g, cap', cur, hv, hb, hg, hc1, hc2, hc3, ht⟩
  · have : xs = [] := List.length_eq_zero_iff.1 h0
    subst this
    simp at hv
    exact Rd.nil _ _ _ (by rw [hv.2]; exact Nat.zero_le _) (fun _ => hv.2)
  · simp at hv
    obtain ⟨rfl, rfl⟩ := hv
    refine ⟨hl, hc1, hc2, (by simp), .inr ⟨g, 0, rfl, (Array.getElem?_eq_some_iff.1 hg).1, fun i hi => ?_⟩⟩
    have := h.cells (g := g) rfl i (U (xs.getD i 0)) (by simp [List.getD, hi])
    have hadd : (⟨g, 0, none⟩ : Addr).add i = ⟨g, 0 + i, none⟩ := by unfold Addr.add; split <;> simp_all
    rw [hadd] at this; exact this

theorem ownsRow_mono {w : World} {base base' : Nat} {e : TypeId} {size : Nat} {v : Value} {n : Nat} {xs : List Value} (h : w.ownsRow base e size v n xs) (hb : base' ≤ base) : w.ownsRow base' e size v n xs := by
  refine ⟨h.1, ?_⟩
  rcases h.2 with h0 | ⟨g, cap, cur, h1, h2, h3⟩
  · exact .inl h0
  · exact .inr ⟨g, cap, cur, h1, Nat.le_trans hb h2, h3⟩

theorem Res.mono {e : TypeId} {base base' : Nat} {w : World} {a : Option Addr} {cap : Nat} {xs : List Nat} (h : Res e base w a cap xs) (hb : base' ≤ base) : Res e base' w a cap xs := ⟨h.1, ownsRow_mono h.2 hb⟩

theorem Res.below {e : TypeId} {base : Nat} {w w' : World} {a : Option Addr} {cap : Nat} {xs : List Nat} (h : Res e base w a cap xs) (hb : Below w.heap.size w w') : Res e base w' a cap xs := by
  refine ⟨h.1, h.2.1, ?_⟩
  rcases h.2.2 with h0 | ⟨g, cap', cur, h1, h2, h3, h4⟩
  · exact .inl h0
  · exact .inr ⟨g, cap', cur, h1, h2, (hb.block g (Array.getElem?_eq_some_iff.1 h3).1).trans h3, h4⟩

/-- Out of what append leaves. -/
theorem Res.of {e : TypeId} {base : Nat} {w : World} {v : Value} {n : Nat} {xs : List Nat} (hl : Lim xs) (h : w.ownsRow base e 1 v n (xs.map U)) : ∃ a cap, v = .slice a xs.length cap ∧ Res e base w a cap xs := by
  have hn : n = xs.length := by have := h.1; simp at this; omega
  subst hn
  rcases h.2 with ⟨hv, h0⟩ | ⟨g, cap, cur, hv, _⟩
  · exact ⟨none, 0, by rw [hv, h0], hl, by rw [h0] at h ⊢; rw [hv] at h; exact h⟩
  · subst hv; exact ⟨_, cap, rfl, hl, h⟩

/-- A view of a block that is known whole. -/
theorem rd_block {w : World} {g : Nat} {zs : List Nat} {e : TypeId} (h : w.heap[g]? = some (.cells (zs.map U).toArray e (0, 0))) (hl : Lim zs) (off n cap : Nat) (h1 : off + n ≤ zs.length) (h2 : n ≤ cap) (h3 : cap ≤ maxLen) :
    Rd w (some ⟨g, off, none⟩) cap ((zs.drop off).take n) := by
  refine ⟨(hl.drop off).take n, by simp; omega, h3, (by simp), .inr ⟨g, off, rfl, (Array.getElem?_eq_some_iff.1 h).1, fun i hi => ?_⟩⟩
  simp at hi
  rw [cell_of_row w g (off + i) _ e (0, 0) h]
  simp [List.getD, U, show off + i < zs.length by omega, show i < n by omega]

theorem rd_new (w : World) (e : TypeId) (zs : List Nat) (cs : Array Value) (hc : cs = (zs.map U).toArray) (hl : Lim zs) (hm : zs.length ≤ maxLen) : Rd (w.alloc (.cells cs e)) (some ⟨w.heap.size, 0, none⟩) zs.length zs := by
  subst hc
  have := rd_block (heap_alloc_new w (.cells (zs.map U).toArray e)) hl 0 zs.length zs.length (by omega) (Nat.le_refl _) hm
  simpa using this

/-- What append leaves, in the walk's own spelling. -/
theorem own_snoc {w : World} {base : Nat} {e : TypeId} {v : Value} {n z : Nat} {zs : List Nat} (h : w.ownsRow base e 1 v n (List.map U zs ++ [U z])) : w.ownsRow base e 1 v n ((zs ++ [z]).map U) := by
  rw [List.map_append]; exact h

theorem oneCell_U (xs : List Nat) : ∀ u ∈ xs.map U, u.oneCell' = true := by
  intro u hu
  obtain ⟨x, _, rfl⟩ := List.mem_map.1 hu
  rfl

section
variable {P : Program} {w : World} {ops : Array Oper} {rest : List Oper} {o : Oper} {a : Act} {Q : Exit → Act → World → Prop}

/-- 'append(out, src...)': src is read, out is the call's own. -/
theorem wpList_append_rd (hgd : o.guard = none) (s x : Operand) (t : TypeId) (ho : o.op = .call { callee := .builtin .append, args := #[s, x], argTypes := #[t, t] })
    (base : Nat) (e : TypeId) (i : TypeInfo) (ht : P.underlying t = some (.slice e)) (hi : P.info? e = some i) (hz : i.zero = some (.int .u32 0)) (hsize : i.size = 1) (hby : i.bytes = 4)
    (v : Value) (n : Nat) (ys : List Nat) (hs : a.eval s = v) (hown : w.ownsRow base e 1 v n (ys.map U))
    (ad : Option Addr) (c m : Nat) (zs : List Nat) (hx : a.eval x = .slice ad m c) (hm : m = zs.length) (hrd : Rd w ad c zs) (hlen : n + zs.length ≤ 2000000000) (hbase : base ≤ w.heap.size)
    (h : ∀ v' w', w'.ownsRow base e 1 v' (n + zs.length) ((ys ++ zs).map U) → w.grownBy w' v.ownBlock → wpList P ops Q rest (a.put o.dst v') w') : wpList P ops Q (o :: rest) a w := by
  subst hm
  cases ad with
  | none =>
    have hc : c = 0 := hrd.2.2.2.1 rfl
    have hzs : zs = [] := by
      rcases hrd.2.2.2.2 with h0 | ⟨b, off, e', _⟩
      · exact h0
      · cases e'
    subst hzs; subst hc
    refine wpList_append_own_none hgd s x t ho base e i 1 ht hi v n (ys.map U) hs hown hx (h v w (by simpa using hown) (World.grownBy.refl w _))
  | some ad =>
    refine wpList_append_own w hgd s x t ho base e i (.int .u32 0) 1 4 ht hi hz hsize hby rfl (by decide) v n (ys.map U) hs hown ad zs.length c (zs.map U) hx (by simp) ?_ (oneCell_U zs) (by unfold maxLen; omega) (by omega) hbase ?_
    · intro j u hj
      rcases hrd.2.2.2.2 with rfl | ⟨b, off, e', hb, hc⟩
      · simp at hj
      · simp at e'; subst e'
        have hjl : j < zs.length := by
          rcases Nat.lt_or_ge j zs.length with h1 | h1
          · exact h1
          · rw [List.getElem?_eq_none (by simpa using h1)] at hj; cases hj
        have hadd : (⟨b, off, none⟩ : Addr).add j = ⟨b, off + j, none⟩ := by unfold Addr.add; split <;> simp_all
        rw [hadd, hc j hjl]
        rw [List.getElem?_map, List.getElem?_eq_getElem hjl] at hj
        simp at hj; rw [← hj]; simp [List.getD, hjl, U]
    · intro v' w' h1 h2 _
      exact h v' w' (by rw [List.map_append]; exact h1) h2

/-- 'append(out, x)': x is laid in a block of its own first. -/
theorem wpList_append_one (hgd : o.guard = none) (s x : Operand) (t : TypeId) (ho : o.op = .call { callee := .builtin .append, args := #[s, x], argTypes := #[t, t] })
    (base : Nat) (e : TypeId) (i : TypeInfo) (ht : P.underlying t = some (.slice e)) (hi : P.info? e = some i) (hz : i.zero = some (.int .u32 0)) (hsize : i.size = 1) (hby : i.bytes = 4)
    (v : Value) (n : Nat) (ys : List Nat) (hs : a.eval s = v) (hown : w.ownsRow base e 1 v n (ys.map U))
    (g z : Nat) (hx : a.eval x = .slice (some ⟨g, 0, none⟩) 1 1) (hc : w.cell? ⟨g, 0, none⟩ = some (.int .u32 (z : Int))) (hlen : n + 1 ≤ 2000000000) (hbase : base ≤ w.heap.size)
    (h : ∀ v' w', w'.ownsRow base e 1 v' (n + 1) ((ys ++ [z]).map U) → w.grownBy w' v.ownBlock → wpList P ops Q rest (a.put o.dst v') w') : wpList P ops Q (o :: rest) a w := by
  refine wpList_append_own w hgd s x t ho base e i (.int .u32 0) 1 4 ht hi hz hsize hby rfl (by decide) v n (ys.map U) hs hown ⟨g, 0, none⟩ 1 1 [U z] hx rfl ?_ (oneCell_U [z]) (by unfold maxLen; omega) (by omega) hbase ?_
  · intro j u hj
    match j, hj with
    | 0, hj => simp at hj; subst hj; simpa [Addr.add, U] using hc
  · intro v' w' h1 h2 _
    exact h v' w' (by rw [List.map_append]; exact h1) h2
end

end Go.Proofs.YtefdkajjdaplbabDoor
