/-
  What is known of a slice of bytes in a world: where it is read (Rb), and where it is a row of the call's own (Rw). Two laws on append. Worlds that are as they were but for some blocks (Keep).
  Rows of ints: read (Ri), and of the call's own (Io), and how they grow.
  Rows of ints that are read, cut.
  How tents lie in a world: read (Tz), of the call's own (To), and how such a row grows by a list; numbers that are read, cut.
  Fields (plain mathematics).
-/
import Derived.Test.YtfpeioccnpinkaaProg
import Derived.WalkKit
import Derived.ProofKit
import Derived.Below
import Derived.Laws.AppendOwnNone
import Derived.Maps.AppendAt
import Derived.Maps.OwnSet
import Derived.Test.YtfpeioccnpinkaaZ8
namespace Go.Proofs.Ytfpeioccnpinkaa
open Go.RowKit
set_option linter.unusedSimpArgs false
set_option linter.unusedVariables false


/-- Every number is a byte. -/
def Byt (xs : List Nat) : Prop := ∀ x ∈ xs, x < 256
theorem Byt.cons {x : Nat} {xs : List Nat} (h : Byt (x :: xs)) : x < 256 ∧ Byt xs := ⟨h x (by simp), fun y hy => h y (by simp [hy])⟩
theorem Byt.mk {x : Nat} {xs : List Nat} (hx : x < 256) (h : Byt xs) : Byt (x :: xs) := by
  intro y hy; rcases List.mem_cons.1 hy with rfl | hy
  · exact hx
  · exact h y hy
theorem Byt.nil : Byt [] := by intro x hx; cases hx
theorem Byt.append {xs ys : List Nat} (h : Byt xs) (k : Byt ys) : Byt (xs ++ ys) := by
  intro x hx; rcases List.mem_append.1 hx with hx | hx
  · exact h x hx
  · exact k x hx
theorem Byt.take {xs : List Nat} (h : Byt xs) (n : Nat) : Byt (xs.take n) := fun x hx => h x (List.mem_of_mem_take hx)
theorem Byt.drop {xs : List Nat} (h : Byt xs) (n : Nat) : Byt (xs.drop n) := fun x hx => h x (List.mem_of_mem_drop hx)
theorem Byt.getD {xs : List Nat} (h : Byt xs) (i : Nat) : xs.getD i 0 < 256 := by
  rw [List.getD_eq_getElem?_getD]
  by_cases hi : i < xs.length
  · rw [List.getElem?_eq_getElem hi]; exact h _ (List.getElem_mem hi)
  · rw [List.getElem?_eq_none (by omega)]; decide

/-- A byte as a value. -/
def Y (n : Nat) : Value := .int .u8 (n : Int)

/-- A slice of bytes: its address and capacity, and the bytes that are read there. -/
def Rb (w : World) (a : Option Addr) (cap : Nat) (xs : List Nat) : Prop :=
  Byt xs ∧ xs.length ≤ cap ∧ cap ≤ maxLen ∧ (a = none → cap = 0) ∧
  (xs = [] ∨ ∃ b off, a = some ⟨b, off, none⟩ ∧ b < w.heap.size ∧ ∀ i, i < xs.length → w.cell? ⟨b, off + i, none⟩ = some (.int .u8 (xs.getD i 0 : Nat)))

theorem Rb.lim {w : World} {a : Option Addr} {cap : Nat} {xs : List Nat} (h : Rb w a cap xs) : Byt xs := h.1
theorem Rb.le {w : World} {a : Option Addr} {cap : Nat} {xs : List Nat} (h : Rb w a cap xs) : xs.length ≤ cap := h.2.1
theorem Rb.cap {w : World} {a : Option Addr} {cap : Nat} {xs : List Nat} (h : Rb w a cap xs) : cap ≤ maxLen := h.2.2.1

/-- Where the bytes lie (a plain name, which no walk looks behind). -/
def Fb (w : World) (a : Option Addr) (xs : List Nat) : Prop :=
  xs = [] ∨ ∃ b off, a = some ⟨b, off, none⟩ ∧ b < w.heap.size ∧ ∀ i, i < xs.length → w.cell? ⟨b, off + i, none⟩ = some (.int .u8 (xs.getD i 0 : Nat))

theorem Rb.fm {w : World} {a : Option Addr} {cap : Nat} {xs : List Nat} (h : Rb w a cap xs) : Fb w a xs := h.2.2.2.2

theorem Fb.at {w wr : World} {a : Option Addr} {xs : List Nat} (h : Fb w a xs) (hb : Below w.heap.size w wr) (k : Nat) (hk : k < xs.length) :
    ∃ b off, a = some ⟨b, off, none⟩ ∧ b < w.heap.size ∧ wr.cell? ⟨b, off + k, none⟩ = some (.int .u8 (xs.getD k 0 : Nat)) := by
  rcases h with rfl | ⟨b, off, h1, h2, h3⟩
  · simp at hk
  · exact ⟨b, off, h1, h2, (hb.cell (p := ⟨b, off + k, none⟩) h2).trans (h3 k hk)⟩

theorem Rb.keep {w w' : World} {a : Option Addr} {cap : Nat} {xs : List Nat} (h : Rb w a cap xs) (hs : w.heap.size ≤ w'.heap.size)
    (hb : ∀ b, b < w.heap.size → (∃ o, a = some ⟨b, o, none⟩) → w'.heap[b]? = w.heap[b]?) : Rb w' a cap xs := by
  obtain ⟨h1, h2, h3, h5, h4⟩ := h
  refine ⟨h1, h2, h3, h5, ?_⟩
  rcases h4 with h4 | ⟨b, off, e, hb1, hc⟩
  · exact .inl h4
  · exact .inr ⟨b, off, e, Nat.lt_of_lt_of_le hb1 hs, fun i hi => (World.cell?_of_block (w := w) (a := ⟨b, off + i, none⟩) (hb b hb1 ⟨off, e⟩)).trans (hc i hi)⟩

theorem Rb.below {w w' : World} {a : Option Addr} {cap : Nat} {xs : List Nat} (h : Rb w a cap xs) (hb : Below w.heap.size w w') : Rb w' a cap xs :=
  h.keep hb.size fun b hb1 _ => hb.block b hb1

theorem Rb.take {w : World} {a : Option Addr} {cap : Nat} {xs : List Nat} (h : Rb w a cap xs) (n : Nat) : Rb w a cap (xs.take n) := by
  obtain ⟨h1, h2, h3, h5, h4⟩ := h
  refine ⟨h1.take n, by simp; omega, h3, h5, ?_⟩
  rcases h4 with rfl | ⟨b, off, e, hb1, hc⟩
  · exact .inl (by simp)
  · refine .inr ⟨b, off, e, hb1, fun i hi => ?_⟩
    simp at hi
    rw [hc i (by omega)]
    simp [List.getD, show i < n by omega]

theorem Rb.nil (w : World) (a : Option Addr) (cap : Nat) (h : cap ≤ maxLen) (h0 : a = none → cap = 0) : Rb w a cap [] := ⟨Byt.nil, Nat.zero_le _, h, h0, .inl rfl⟩

/-- A row of the call's own. -/
def Rw (e : TypeId) (base : Nat) (w : World) (a : Option Addr) (cap : Nat) (xs : List Nat) : Prop :=
  Byt xs ∧ w.ownsRow base e 1 (.slice a xs.length cap) xs.length (xs.map Y)

theorem Rw.lim {e : TypeId} {base : Nat} {w : World} {a : Option Addr} {cap : Nat} {xs : List Nat} (h : Rw e base w a cap xs) : Byt xs := h.1

theorem Rw.rd {e : TypeId} {base : Nat} {w : World} {a : Option Addr} {cap : Nat} {xs : List Nat} (h : Rw e base w a cap xs) : Rb w a cap xs := by
  obtain ⟨hl, h⟩ := h
  rcases h.2 with ⟨hv, h0⟩ | ⟨g, cap', cur, hv, hb, hg, hc1, hc2, hc3, ht⟩
  · have : xs = [] := List.length_eq_zero_iff.1 h0
    subst this
    simp at hv
    exact Rb.nil _ _ _ (by rw [hv.2]; exact Nat.zero_le _) (fun _ => hv.2)
  · simp at hv
    obtain ⟨rfl, rfl⟩ := hv
    refine ⟨hl, hc1, hc2, (by simp), .inr ⟨g, 0, rfl, (Array.getElem?_eq_some_iff.1 hg).1, fun i hi => ?_⟩⟩
    have := h.cells (g := g) rfl i (Y (xs.getD i 0)) (by simp [List.getD, hi])
    have hadd : (⟨g, 0, none⟩ : Addr).add i = ⟨g, 0 + i, none⟩ := by unfold Addr.add; split <;> simp_all
    rw [hadd] at this; exact this

theorem ownsRow_monoB {w : World} {base base' : Nat} {e : TypeId} {size : Nat} {v : Value} {n : Nat} {xs : List Value} (h : w.ownsRow base e size v n xs) (hb : base' ≤ base) : w.ownsRow base' e size v n xs := by
  refine ⟨h.1, ?_⟩
  rcases h.2 with h0 | ⟨g, cap, cur, h1, h2, h3⟩
  · exact .inl h0
  · exact .inr ⟨g, cap, cur, h1, Nat.le_trans hb h2, h3⟩

theorem Rw.mono {e : TypeId} {base base' : Nat} {w : World} {a : Option Addr} {cap : Nat} {xs : List Nat} (h : Rw e base w a cap xs) (hb : base' ≤ base) : Rw e base' w a cap xs := ⟨h.1, ownsRow_monoB h.2 hb⟩

theorem Rw.below {e : TypeId} {base : Nat} {w w' : World} {a : Option Addr} {cap : Nat} {xs : List Nat} (h : Rw e base w a cap xs) (hb : Below w.heap.size w w') : Rw e base w' a cap xs := by
  refine ⟨h.1, h.2.1, ?_⟩
  rcases h.2.2 with h0 | ⟨g, cap', cur, h1, h2, h3, h4⟩
  · exact .inl h0
  · exact .inr ⟨g, cap', cur, h1, h2, (hb.block g (Array.getElem?_eq_some_iff.1 h3).1).trans h3, h4⟩

/-- Out of what append leaves. -/
theorem Rw.of {e : TypeId} {base : Nat} {w : World} {v : Value} {n : Nat} {xs : List Nat} (hl : Byt xs) (h : w.ownsRow base e 1 v n (xs.map Y)) : ∃ a cap, v = .slice a xs.length cap ∧ Rw e base w a cap xs := by
  have hn : n = xs.length := by have := h.1; simp at this; omega
  subst hn
  rcases h.2 with ⟨hv, h0⟩ | ⟨g, cap, cur, hv, _⟩
  · exact ⟨none, 0, by rw [hv, h0], hl, by rw [h0] at h ⊢; rw [hv] at h; exact h⟩
  · subst hv; exact ⟨_, cap, rfl, hl, h⟩

/-- A view of a block that is known whole. -/
theorem rb_block {w : World} {g : Nat} {zs : List Nat} {e : TypeId} (h : w.heap[g]? = some (.cells (zs.map Y).toArray e (0, 0))) (hl : Byt zs) (off n cap : Nat) (h1 : off + n ≤ zs.length) (h2 : n ≤ cap) (h3 : cap ≤ maxLen) :
    Rb w (some ⟨g, off, none⟩) cap ((zs.drop off).take n) := by
  refine ⟨(hl.drop off).take n, by simp; omega, h3, (by simp), .inr ⟨g, off, rfl, (Array.getElem?_eq_some_iff.1 h).1, fun i hi => ?_⟩⟩
  simp at hi
  rw [cell_of_row w g (off + i) _ e (0, 0) h]
  simp [List.getD, Y, show off + i < zs.length by omega, show i < n by omega]

theorem rb_new (w : World) (e : TypeId) (zs : List Nat) (cs : Array Value) (hc : cs = (zs.map Y).toArray) (hl : Byt zs) (hm : zs.length ≤ maxLen) : Rb (w.alloc (.cells cs e)) (some ⟨w.heap.size, 0, none⟩) zs.length zs := by
  subst hc
  have := rb_block (heap_alloc_new w (.cells (zs.map Y).toArray e)) hl 0 zs.length zs.length (by omega) (Nat.le_refl _) hm
  simpa using this

/-- What append leaves, in the walk's own spelling. -/
theorem own_snocB {w : World} {base : Nat} {e : TypeId} {v : Value} {n z : Nat} {zs : List Nat} (h : w.ownsRow base e 1 v n (List.map Y zs ++ [Y z])) : w.ownsRow base e 1 v n ((zs ++ [z]).map Y) := by
  rw [List.map_append]; exact h

theorem oneCell_Y (xs : List Nat) : ∀ u ∈ xs.map Y, u.oneCell' = true := by
  intro u hu
  obtain ⟨x, _, rfl⟩ := List.mem_map.1 hu
  rfl

section
variable {P : Program} {w : World} {ops : Array Oper} {rest : List Oper} {o : Oper} {a : Act} {Q : Exit → Act → World → Prop}

/-- 'append(out, src...)': src is read, out is the call's own. -/
theorem wpList_append_rb (hgd : o.guard = none) (s x : Operand) (t : TypeId) (ho : o.op = .call { callee := .builtin .append, args := #[s, x], argTypes := #[t, t] })
    (base : Nat) (e : TypeId) (i : TypeInfo) (ht : P.underlying t = some (.slice e)) (hi : P.info? e = some i) (hz : i.zero = some (.int .u8 0)) (hsize : i.size = 1) (hby : i.bytes = 1)
    (v : Value) (n : Nat) (ys : List Nat) (hs : a.eval s = v) (hown : w.ownsRow base e 1 v n (ys.map Y))
    (ad : Option Addr) (c m : Nat) (zs : List Nat) (hx : a.eval x = .slice ad m c) (hm : m = zs.length) (hrd : Rb w ad c zs) (hlen : n + zs.length ≤ 2000000000) (hbase : base ≤ w.heap.size)
    (h : ∀ v' w', w'.ownsRow base e 1 v' (n + zs.length) ((ys ++ zs).map Y) → w.grownBy w' v.ownBlock → (v'.ownBlock = v.ownBlock ∨ v'.ownBlock = some w.heap.size) → wpList P ops Q rest (a.put o.dst v') w') : wpList P ops Q (o :: rest) a w := by
  subst hm
  cases ad with
  | none =>
    have hc : c = 0 := hrd.2.2.2.1 rfl
    have hzs : zs = [] := by
      rcases hrd.2.2.2.2 with h0 | ⟨b, off, e', _⟩
      · exact h0
      · cases e'
    subst hzs; subst hc
    refine wpList_append_own_none hgd s x t ho base e i 1 ht hi v n (ys.map Y) hs hown hx (h v w (by simpa using hown) (World.grownBy.refl w _) (.inl rfl))
  | some ad =>
    refine wpList_append_own_at w hgd s x t ho base e i (.int .u8 0) 1 1 ht hi hz hsize hby rfl (by decide) v n (ys.map Y) hs hown ad zs.length c (zs.map Y) hx (by simp) ?_ (oneCell_Y zs) (by unfold maxLen; omega) (by omega) hbase ?_
    · intro j u hj
      rcases hrd.2.2.2.2 with rfl | ⟨b, off, e', hb, hc⟩
      · simp at hj
      · simp at e'; subst e'
        have hjl : j < zs.length := by
          rcases Nat.lt_or_ge j zs.length with h1 | h1
          · exact h1
          · rw [List.getElem?_eq_none (by simpa using h1)] at hj; cases hj
        have hadd : (⟨b, off, none⟩ : Addr).add j = ⟨b, off + j, none⟩ := by unfold Addr.add; split <;> simp_all
        rw [hadd, hc j hjl]
        rw [List.getElem?_map, List.getElem?_eq_getElem hjl] at hj
        simp at hj; rw [← hj]; simp [List.getD, hjl, Y]
    · intro v' w' h1 h2 _ h3
      exact h v' w' (by rw [List.map_append]; exact h1) h2 h3

/-- 'append(out, x)': x is laid in a block of its own first. -/
theorem wpList_append_oneB (hgd : o.guard = none) (s x : Operand) (t : TypeId) (ho : o.op = .call { callee := .builtin .append, args := #[s, x], argTypes := #[t, t] })
    (base : Nat) (e : TypeId) (i : TypeInfo) (ht : P.underlying t = some (.slice e)) (hi : P.info? e = some i) (hz : i.zero = some (.int .u8 0)) (hsize : i.size = 1) (hby : i.bytes = 1)
    (v : Value) (n : Nat) (ys : List Nat) (hs : a.eval s = v) (hown : w.ownsRow base e 1 v n (ys.map Y))
    (g z : Nat) (hx : a.eval x = .slice (some ⟨g, 0, none⟩) 1 1) (hc : w.cell? ⟨g, 0, none⟩ = some (.int .u8 (z : Int))) (hlen : n + 1 ≤ 2000000000) (hbase : base ≤ w.heap.size)
    (h : ∀ v' w', w'.ownsRow base e 1 v' (n + 1) ((ys ++ [z]).map Y) → w.grownBy w' v.ownBlock → (v'.ownBlock = v.ownBlock ∨ v'.ownBlock = some w.heap.size) → wpList P ops Q rest (a.put o.dst v') w') : wpList P ops Q (o :: rest) a w := by
  refine wpList_append_own_at w hgd s x t ho base e i (.int .u8 0) 1 1 ht hi hz hsize hby rfl (by decide) v n (ys.map Y) hs hown ⟨g, 0, none⟩ 1 1 [Y z] hx rfl ?_ (oneCell_Y [z]) (by unfold maxLen; omega) (by omega) hbase ?_
  · intro j u hj
    match j, hj with
    | 0, hj => simp at hj; subst hj; simpa [Addr.add, Y] using hc
  · intro v' w' h1 h2 _ h3
    exact h v' w' (by rw [List.map_append]; exact h1) h2 h3
end

/-- The blocks of G are as they were, and so are the streams; no block has gone. -/
structure Keep (G : Nat → Prop) (w w' : World) : Prop where
  os : w'.os = w.os
  tape : w'.tape = w.tape
  output : w'.output = w.output
  size : w.heap.size ≤ w'.heap.size
  block : ∀ k, G k → w'.heap[k]? = w.heap[k]?

theorem Keep.refl (G : Nat → Prop) (w : World) : Keep G w w := ⟨rfl, rfl, rfl, Nat.le_refl _, fun _ _ => rfl⟩
theorem Keep.trans {G : Nat → Prop} {a b c : World} (h : Keep G a b) (k : Keep G b c) : Keep G a c :=
  ⟨k.os.trans h.os, k.tape.trans h.tape, k.output.trans h.output, Nat.le_trans h.size k.size, fun i hi => (k.block i hi).trans (h.block i hi)⟩
theorem Keep.mono {G G' : Nat → Prop} {w w' : World} (h : Keep G w w') (hG : ∀ k, G' k → G k) : Keep G' w w' := ⟨h.os, h.tape, h.output, h.size, fun k hk => h.block k (hG k hk)⟩
theorem Keep.of_below {G : Nat → Prop} {w w' : World} {B : Nat} (h : Below B w w') (hG : ∀ k, G k → k < B) : Keep G w w' := ⟨h.os, h.tape, h.output, h.size, fun k hk => h.block k (hG k hk)⟩
theorem Keep.below {G : Nat → Prop} {w w' : World} {B : Nat} (h : Keep G w w') (hG : ∀ k, k < B → G k) : Below B w w' := ⟨h.os, h.tape, h.output, h.size, fun k hk => h.block k (hG k hk)⟩
theorem Keep.alloc {G : Nat → Prop} {a w : World} (h : Keep G a w) (hG : ∀ k, G k → k < w.heap.size) (o : Obj) : Keep G a (w.alloc o) :=
  h.trans (Keep.of_below ((Below.refl w.heap.size w).alloc (Nat.le_refl _) o) hG)
theorem Keep.setCell {G : Nat → Prop} {a w : World} (h : Keep G a w) {p : Addr} (hp : ¬ G p.block) (u : Value) : Keep G a (w.setCell p u) :=
  h.trans ⟨rfl, rfl, rfl, by simp [World.setCell], fun k hk => Below.heap_setCell _ _ _ _ (fun e => hp (e ▸ hk))⟩
theorem Keep.grown {G : Nat → Prop} {a w w' : World} {row : Option Nat} (h : Keep G a w) (hg : w.grownBy w' row) (hG : ∀ k, G k → k < w.heap.size) (hr : ∀ k, row = some k → ¬ G k) : Keep G a w' :=
  h.trans ⟨hg.os, hg.tape, hg.output, hg.size, fun k hk => hg.block k (hG k hk) (fun e => hr k e.symm hk)⟩
theorem Keep.turned {G : Nat → Prop} {a w w' : World} {b : Nat} (h : Keep G a w) (ht : w.mapTurned w' b) (hG : ∀ k, G k → k < w.heap.size) (hb : ¬ G b) : Keep G a w' :=
  h.grown ht.grown hG (fun k hk => by cases hk; exact hb)
theorem Keep.cell {G : Nat → Prop} {w w' : World} (h : Keep G w w') {p : Addr} (hp : G p.block) : w'.cell? p = w.cell? p := World.cell?_of_block (w := w) (h.block p.block hp)
theorem Rb.kept {G : Nat → Prop} {w w' : World} {a : Option Addr} {cap : Nat} {xs : List Nat} (h : Rb w a cap xs) (hk : Keep G w w') (hG : ∀ b o, a = some ⟨b, o, none⟩ → G b) : Rb w' a cap xs :=
  h.keep hk.size fun b _ ⟨o, e⟩ => hk.block b (hG b o e)

/-- A number of 64 bits with a sign. -/
def I64 (n : Int) : Prop := -9223372036854775808 ≤ n ∧ n ≤ 9223372036854775807
theorem rt_bool {a b : Bool} (h : a = b) : Ending.returned (.bool a) = .returned (.bool b) := by rw [h]
theorem rt_int {a b : Int} {k : IntKind} (h : a = b) : Ending.returned (.int k a) = .returned (.int k b) := by rw [h]
theorem rt_slice {a a' : Option Addr} {n n' c c' : Nat} (h1 : a = a') (h2 : n = n') (h3 : c = c') : Ending.returned (.slice a n c) = .returned (.slice a' n' c') := by rw [h1, h2, h3]
theorem bl1 {w : World} (o : Obj) : Below w.heap.size w (w.alloc o) := (Below.refl _ _).alloc (Nat.le_refl _) o
theorem bl2 {w : World} (o o' : Obj) : Below w.heap.size w ((w.alloc o).alloc o') := (bl1 o).alloc (by simp) o'
theorem bl3 {w : World} (o o' o'' : Obj) : Below w.heap.size w (((w.alloc o).alloc o').alloc o'') := (bl2 o o').alloc (by simp; omega) o''

end Go.Proofs.Ytfpeioccnpinkaa

namespace Go.Proofs.Ytfpeioccnpinkaa
open Go.RowKit Go.Maps
set_option linter.unusedSimpArgs false
set_option linter.unusedVariables false

/-- Ints that are read. -/
def Ri (w : World) (a : Option Addr) (cap : Nat) (zs : List Int) : Prop :=
  (∀ z ∈ zs, I64 z) ∧ zs.length ≤ cap ∧ cap ≤ maxLen ∧
  (zs = [] ∨ ∃ b off, a = some ⟨b, off, none⟩ ∧ b < w.heap.size ∧ ∀ i, i < zs.length → w.cell? ⟨b, off + i, none⟩ = some (.int .i64 (zs.getD i 0)))
theorem Ri.at {w wr : World} {a : Option Addr} {cap : Nat} {zs : List Int} (h : Ri w a cap zs) (hb : Below w.heap.size w wr) (k : Nat) (hk : k < zs.length) :
    ∃ b off, a = some ⟨b, off, none⟩ ∧ b < w.heap.size ∧ wr.cell? ⟨b, off + k, none⟩ = some (.int .i64 (zs.getD k 0)) := by
  rcases h.2.2.2 with rfl | ⟨b, off, h1, h2, h3⟩
  · simp at hk
  · exact ⟨b, off, h1, h2, (hb.cell (p := ⟨b, off + k, none⟩) h2).trans (h3 k hk)⟩
theorem Ri.below {w w' : World} {a : Option Addr} {cap : Nat} {zs : List Int} (h : Ri w a cap zs) (hb : Below w.heap.size w w') : Ri w' a cap zs := by
  obtain ⟨h1, h2, h3, h4⟩ := h
  refine ⟨h1, h2, h3, ?_⟩
  rcases h4 with h4 | ⟨b, off, e, h5, h6⟩
  · exact .inl h4
  · exact .inr ⟨b, off, e, Nat.lt_of_lt_of_le h5 hb.size, fun i hi => (hb.cell (p := ⟨b, off + i, none⟩) h5).trans (h6 i hi)⟩
theorem Ri.nil (w : World) (a : Option Addr) (cap : Nat) (h : cap ≤ maxLen) : Ri w a cap [] := ⟨(fun z hz => by cases hz), Nat.zero_le _, h, .inl rfl⟩
theorem Ri.i64 {w : World} {a : Option Addr} {cap : Nat} {zs : List Int} (h : Ri w a cap zs) {k : Nat} (hk : k < zs.length) : I64 (zs.getD k 0) := by
  refine h.1 _ ?_
  rw [List.getD_eq_getElem?_getD, List.getElem?_eq_getElem hk]
  exact List.getElem_mem hk

theorem infoA_i64 : (Try.prog.info? 3).map (fun i => (i.zero, i.size, i.bytes)) = some (some (.int .i64 0), 1, 8) := by kernel_rfl
/-- A row of ints of the call's own. -/
def Io (base : Nat) (w : World) (v : Value) (zs : List Int) : Prop := (∀ z ∈ zs, I64 z) ∧ w.ownsRow base 3 1 v zs.length (zs.map (Value.int .i64))
theorem Io.nil (base : Nat) (w : World) : Io base w (.slice none 0 0) [] := ⟨(fun t ht => by cases ht), World.ownsRow_nil w base _ 1⟩
theorem Io.slice {base : Nat} {w : World} {v : Value} {zs : List Int} (h : Io base w v zs) : ∃ a cap, v = .slice a zs.length cap ∧ Ri w a cap zs := by
  obtain ⟨h1, h3⟩ := h
  rcases h3.2 with ⟨rfl, h0⟩ | ⟨g, cap, cur, rfl, hb, hg, hc1, hc2, hc3, ht⟩
  · have : zs = [] := List.length_eq_zero_iff.1 h0
    subst this
    exact ⟨none, 0, rfl, Ri.nil _ _ _ (Nat.zero_le _)⟩
  · refine ⟨_, cap, rfl, h1, hc1, hc2, .inr ⟨g, 0, rfl, (Array.getElem?_eq_some_iff.1 hg).1, fun i hi => ?_⟩⟩
    have := h3.cells (g := g) rfl i (.int .i64 (zs.getD i 0)) (by simp [List.getD, hi])
    have hadd : (⟨g, 0, none⟩ : Addr).add i = ⟨g, 0 + i, none⟩ := by unfold Addr.add; split <;> simp_all
    rw [hadd] at this
    exact this
theorem Io.below {base : Nat} {w w' : World} {v : Value} {zs : List Int} (h : Io base w v zs) (hb : Below w.heap.size w w') : Io base w' v zs := by
  obtain ⟨h1, h3⟩ := h
  refine ⟨h1, h3.1, ?_⟩
  rcases h3.2 with h0 | ⟨g, cap', cur, k1, k2, k3, k4⟩
  · exact .inl h0
  · exact .inr ⟨g, cap', cur, k1, k2, (hb.block g (Array.getElem?_eq_some_iff.1 k3).1).trans k3, k4⟩
theorem Io.lo {base : Nat} {w : World} {v : Value} {zs : List Int} (h : Io base w v zs) {g : Nat} (hg : v.ownBlock = some g) : base ≤ g := (World.ownsRow.lt h.2 g hg).1
/-- 'append(out, x)': x is laid in a block of its own first. -/
theorem wpList_append_int {w : World} {ops : Array Oper} {rest : List Oper} {o : Oper} {a : Act} {Q : Exit → Act → World → Prop}
    (hgd : o.guard = none) (s x : Operand) (ho : o.op = .call { callee := .builtin .append, args := #[s, x], argTypes := #[29, 29] })
    (base : Nat) (v : Value) (zs : List Int) (hs : a.eval s = v) (hown : Io base w v zs) (g : Nat) (z : Int) (hx : a.eval x = .slice (some ⟨g, 0, none⟩) 1 1)
    (c0 : w.cell? ⟨g, 0, none⟩ = some (.int .i64 z)) (hz : I64 z) (hlen : zs.length + 1 ≤ 1000000) (hbase : base ≤ w.heap.size)
    (h : ∀ v' w', Io base w' v' (zs ++ [z]) → w.grownBy w' v.ownBlock → wpList Try.prog ops Q rest (a.put o.dst v') w') : wpList Try.prog ops Q (o :: rest) a w := by
  obtain ⟨i0, hi, hz0, hz1, hz2⟩ := info_parts infoA_i64
  refine wpList_append_own_at w hgd s x 29 ho base 3 i0 (.int .i64 0) 1 8 Try.underlying29 hi hz0 hz1 hz2 rfl (by decide) v zs.length (zs.map (Value.int .i64)) hs hown.2 ⟨g, 0, none⟩ 1 1 [.int .i64 z] hx rfl ?_ ?_ (by unfold maxLen; omega) (by omega) hbase ?_
  · intro j u hj
    match j, hj with
    | 0, hj => simp at hj; subst hj; simpa [Addr.add] using c0
  · intro u hu
    simp at hu
    subst hu
    rfl
  · intro v' w' k1 k2 _ _
    refine h v' w' ⟨fun s hs => ?_, ?_⟩ k2
    · rcases List.mem_append.1 hs with hs | hs
      · exact hown.1 s hs
      · rw [List.mem_singleton.1 hs]; exact hz
    · rw [List.map_append, List.length_append]
      exact k1
theorem Ri.lenB {w : World} {a : Option Addr} {cap : Nat} {zs : List Int} (h : Ri w a cap zs) : zs.length ≤ 9223372036854775807 := by
  have h1 := h.2.1
  have h2 := h.2.2.1
  unfold maxLen at h2
  omega
/-- 'append(out, place...)'. -/
theorem wpList_append_ris {w : World} {ops : Array Oper} {rest : List Oper} {o : Oper} {a : Act} {Q : Exit → Act → World → Prop}
    (hgd : o.guard = none) (s x : Operand) (ho : o.op = .call { callee := .builtin .append, args := #[s, x], argTypes := #[29, 29] })
    (base : Nat) (v : Value) (zs : List Int) (hs : a.eval s = v) (hown : Io base w v zs) (pa : Option Addr) (pc n : Nat) (ps : List Int) (hn : n = ps.length) (hx : a.eval x = .slice pa n pc)
    (hp : Ri w pa pc ps) (hne : ps ≠ []) (hlen : zs.length + ps.length ≤ 1000000) (hbase : base ≤ w.heap.size)
    (h : ∀ v' w', Io base w' v' (zs ++ ps) → w.grownBy w' v.ownBlock → wpList Try.prog ops Q rest (a.put o.dst v') w') : wpList Try.prog ops Q (o :: rest) a w := by
  subst hn
  obtain ⟨i0, hi, hz0, hz1, hz2⟩ := info_parts infoA_i64
  rcases hp.2.2.2 with h0 | ⟨b, off, rfl, hb, hc⟩
  · exact absurd h0 hne
  refine wpList_append_own_at w hgd s x 29 ho base 3 i0 (.int .i64 0) 1 8 Try.underlying29 hi hz0 hz1 hz2 rfl (by decide) v zs.length (zs.map (Value.int .i64)) hs hown.2 ⟨b, off, none⟩ ps.length pc (ps.map (Value.int .i64)) hx (by simp) ?_ ?_ (by unfold maxLen; omega) (by omega) hbase ?_
  · intro j u hj
    have hjl : j < ps.length := by
      rcases Nat.lt_or_ge j ps.length with h1 | h1
      · exact h1
      · rw [List.getElem?_eq_none (by simpa using h1)] at hj; cases hj
    have hadd : (⟨b, off, none⟩ : Addr).add j = ⟨b, off + j, none⟩ := by unfold Addr.add; split <;> simp_all
    rw [hadd, hc j hjl]
    rw [List.getElem?_map, List.getElem?_eq_getElem hjl] at hj
    simp at hj
    rw [← hj]
    simp [List.getD, hjl]
  · intro u hu
    obtain ⟨z, _, rfl⟩ := List.mem_map.1 hu
    rfl
  · intro v' w' k1 k2 _ _
    refine h v' w' ⟨fun s hs => ?_, ?_⟩ k2
    · rcases List.mem_append.1 hs with hs | hs
      · exact hown.1 s hs
      · exact hp.1 s hs
    · rw [List.map_append, List.length_append]
      exact k1
/-- A row of ints of the call's own that isn't empty, and a store into it. -/
theorem Io.own {base : Nat} {w : World} {v : Value} {zs : List Int} (h : Io base w v zs) (hne : zs ≠ []) :
    ∃ g cap, v = .slice (some ⟨g, 0, none⟩) zs.length cap ∧ base ≤ g ∧ g < w.heap.size ∧ zs.length ≤ cap ∧ (∀ k, k < zs.length → w.cell? ⟨g, k, none⟩ = some (.int .i64 (zs.getD k 0))) ∧ (∀ k, w.frozen? ⟨g, k, none⟩ = false) ∧
      ∀ k z, k < zs.length → I64 z → Io base (w.setCell ⟨g, k, none⟩ (.int .i64 z)) v (zs.set k z) := by
  obtain ⟨h1, h3⟩ := h
  rcases h3.2 with ⟨rfl, h0⟩ | ⟨g, cap, cur, rfl, hb, hg, hc1, hc2, hc3, ht⟩
  · exact absurd (List.length_eq_zero_iff.1 h0) hne
  · refine ⟨g, cap, rfl, hb, (Array.getElem?_eq_some_iff.1 hg).1, hc1, fun k hk => ?_, fun k => frozen_of_row w g k _ _ hg, fun k z hk hz => ⟨fun s hs => ?_, ?_⟩⟩
    · have := h3.cells (g := g) rfl k (.int .i64 (zs.getD k 0)) (by simp [List.getD, hk])
      have hadd : (⟨g, 0, none⟩ : Addr).add k = ⟨g, 0 + k, none⟩ := by unfold Addr.add; split <;> simp_all
      rw [hadd, Nat.zero_add] at this
      exact this
    · rcases List.mem_or_eq_of_mem_set hs with hs | hs
      · exact h1 s hs
      · rw [hs]; exact hz
    · have hset := heap_setCell_same w g k cur 3 (.int .i64 z) hg
      refine ⟨by simp, .inr ⟨g, cap, _, by rw [List.length_set], hb, hset, by simpa using hc1, hc2, ?_, ?_⟩⟩
      · simpa using hc3
      · simp only [List.length_set, Nat.mul_one] at ht ⊢
        rw [List.map_set, ← ht]
        simp [List.take_set]

end Go.Proofs.Ytfpeioccnpinkaa

namespace Go.Proofs.Ytfpeioccnpinkaa
open Go.RowKit Go.Maps
set_option linter.unusedSimpArgs false
set_option linter.unusedVariables false

/-- Numbers, cut. -/
theorem Ri.take {w : World} {a : Option Addr} {cap : Nat} {zs : List Int} (h : Ri w a cap zs) (n : Nat) : Ri w a cap (zs.take n) := by
  refine ⟨fun z hz => h.1 z (List.mem_of_mem_take hz), Nat.le_trans (by simp; omega) h.2.1, h.2.2.1, ?_⟩
  rcases h.2.2.2 with h4 | ⟨b, off, e, h5, h6⟩
  · exact .inl (by rw [h4]; simp)
  · refine .inr ⟨b, off, e, h5, fun i hi => ?_⟩
    have hi' : i < n ∧ i < zs.length := by simp at hi; omega
    rw [h6 i hi'.2]
    simp [List.getD, List.getElem?_take, hi'.1]
theorem Ri.drop {w : World} {b off cap : Nat} {zs : List Int} (h : Ri w (some ⟨b, off, none⟩) cap zs) (n : Nat) (hn : n ≤ zs.length) : Ri w (some ⟨b, off + n, none⟩) (cap - n) (zs.drop n) := by
  refine ⟨fun z hz => h.1 z (List.mem_of_mem_drop hz), ?_, Nat.le_trans (Nat.sub_le _ _) h.2.2.1, ?_⟩
  · have := h.2.1
    simp
    omega
  · rcases h.2.2.2 with h4 | ⟨b', off', e, h5, h6⟩
    · exact .inl (by rw [h4]; simp)
    · cases e
      refine .inr ⟨b, off + n, rfl, h5, fun i hi => ?_⟩
      have hi' : n + i < zs.length := by simp at hi; omega
      rw [Nat.add_assoc, h6 (n + i) hi']
      simp [List.getD]
/-- Numbers, cut at both ends. -/
theorem Ri.from {w : World} {a : Option Addr} {cap : Nat} {zs : List Int} (h : Ri w a cap zs) (n : Nat) (hn : n ≤ zs.length) : Ri w (if cap = n then a else a.map (fun x => x.add n)) (cap - n) (zs.drop n) := by
  by_cases h0 : n < zs.length
  · rcases h.2.2.2 with h4 | ⟨b, off, rfl, h5, h6⟩
    · rw [h4] at h0; simp at h0
    · have := h.2.1
      rw [if_neg (by omega)]
      have hadd : (⟨b, off, none⟩ : Addr).add n = ⟨b, off + n, none⟩ := by unfold Addr.add; split <;> simp_all
      show Ri w (some ((⟨b, off, none⟩ : Addr).add n)) _ _
      rw [hadd]
      exact h.drop n hn
  · have e : zs.drop n = [] := List.drop_eq_nil_of_le (by omega)
    rw [e]
    exact Ri.nil _ _ _ (Nat.le_trans (Nat.sub_le _ _) h.2.2.1)

end Go.Proofs.Ytfpeioccnpinkaa

namespace Go.Proofs.Ytfpeioccnpinkaa
open Go.RowKit Go.Maps
set_option linter.unusedSimpArgs false
set_option linter.unusedVariables false

/-- A tent's numbers are ints. -/
def Tw (t : Te) : Prop := I64 t.st ∧ I64 t.pk ∧ I64 t.en
/-- A tent's cells. -/
def teC (t : Te) : Array Value := #[.int .i64 t.st, .int .i64 t.pk, .int .i64 t.en]

/-- Tents that are read. -/
def Tz (w : World) (a : Option Addr) (cap : Nat) (l : List Te) : Prop :=
  l.length ≤ cap ∧ cap ≤ maxLen ∧ (∀ t ∈ l, Tw t) ∧ (a = none → cap = 0) ∧
  ∀ i, i < l.length → ∃ b off, a = some ⟨b, off, none⟩ ∧ b < w.heap.size ∧ w.cell? ⟨b, off + i * 3, none⟩ = some (.int .i64 (l.getD i Te.none).st) ∧
    w.cell? ⟨b, off + i * 3 + 1, none⟩ = some (.int .i64 (l.getD i Te.none).pk) ∧ w.cell? ⟨b, off + i * 3 + 2, none⟩ = some (.int .i64 (l.getD i Te.none).en)
theorem Tz.keep {w w' : World} {a : Option Addr} {cap : Nat} {l : List Te} (h : Tz w a cap l) (hs : w.heap.size ≤ w'.heap.size)
    (hb : ∀ b, b < w.heap.size → (∃ o, a = some ⟨b, o, none⟩) → l ≠ [] → w'.heap[b]? = w.heap[b]?) : Tz w' a cap l := by
  refine ⟨h.1, h.2.1, h.2.2.1, h.2.2.2.1, fun i hi => ?_⟩
  obtain ⟨b, off, h1, h2, h3, h4, h5⟩ := h.2.2.2.2 i hi
  have e := hb b h2 ⟨off, h1⟩ (fun e => by rw [e] at hi; simp at hi)
  exact ⟨b, off, h1, Nat.lt_of_lt_of_le h2 hs, (World.cell?_of_block (w := w) (a := ⟨b, off + i * 3, none⟩) e).trans h3, (World.cell?_of_block (w := w) (a := ⟨b, off + i * 3 + 1, none⟩) e).trans h4, (World.cell?_of_block (w := w) (a := ⟨b, off + i * 3 + 2, none⟩) e).trans h5⟩
theorem Tz.below {w w' : World} {a : Option Addr} {cap : Nat} {l : List Te} (h : Tz w a cap l) (hb : Below w.heap.size w w') : Tz w' a cap l :=
  h.keep hb.size fun b hb1 _ _ => hb.block b hb1
theorem Tz.at {w wr : World} {a : Option Addr} {cap : Nat} {l : List Te} (h : Tz w a cap l) (hb : Below w.heap.size w wr) (k : Nat) (hk : k < l.length) :
    ∃ b off, a = some ⟨b, off, none⟩ ∧ b < w.heap.size ∧ wr.cell? ⟨b, off + k * 3, none⟩ = some (.int .i64 (l.getD k Te.none).st) ∧
    wr.cell? ⟨b, off + k * 3 + 1, none⟩ = some (.int .i64 (l.getD k Te.none).pk) ∧ wr.cell? ⟨b, off + k * 3 + 2, none⟩ = some (.int .i64 (l.getD k Te.none).en) := by
  obtain ⟨b, off, h1, h2, h3, h4, h5⟩ := h.2.2.2.2 k hk
  exact ⟨b, off, h1, h2, (hb.cell (p := ⟨b, off + k * 3, none⟩) h2).trans h3, (hb.cell (p := ⟨b, off + k * 3 + 1, none⟩) h2).trans h4, (hb.cell (p := ⟨b, off + k * 3 + 2, none⟩) h2).trans h5⟩
theorem Tz.w {w : World} {a : Option Addr} {cap : Nat} {l : List Te} (h : Tz w a cap l) {k : Nat} (hk : k < l.length) : Tw (l.getD k Te.none) := h.2.2.1 _ (getT_mem hk)
theorem Tz.nil (w : World) (a : Option Addr) (cap : Nat) (h : cap ≤ maxLen) (h0 : a = none → cap = 0) : Tz w a cap [] := ⟨Nat.zero_le _, h, (fun t ht => by cases ht), h0, fun i hi => by simp at hi⟩
theorem Tz.lenB {w : World} {a : Option Addr} {cap : Nat} {l : List Te} (h : Tz w a cap l) : l.length ≤ 9223372036854775807 := by
  have h1 := h.1
  have h2 := h.2.1
  unfold maxLen at h2
  omega

theorem info_te : (Try.prog.info? 132).map (fun i => (i.zero, i.size, i.bytes)) = some (some (.agg #[.int .i64 0, .int .i64 0, .int .i64 0]), 3, 24) := by kernel_rfl

/-- The cells of tents. -/
def teL : List Te → List Value
  | [] => []
  | t :: l => [.int .i64 t.st, .int .i64 t.pk, .int .i64 t.en] ++ teL l
theorem teL_append (l m : List Te) : teL (l ++ m) = teL l ++ teL m := by
  induction l with
  | nil => rfl
  | cons t l ih => rw [List.cons_append, teL, teL, ih, List.append_assoc]
theorem teL_len (l : List Te) : (teL l).length = l.length * 3 := by
  induction l with
  | nil => rfl
  | cons t l ih => rw [teL, List.length_append, ih]; simp; omega
theorem teL_get : ∀ (l : List Te) (i : Nat), i < l.length → (teL l)[i * 3]? = some (.int .i64 (l.getD i Te.none).st) ∧ (teL l)[i * 3 + 1]? = some (.int .i64 (l.getD i Te.none).pk) ∧ (teL l)[i * 3 + 2]? = some (.int .i64 (l.getD i Te.none).en) := by
  intro l
  induction l with
  | nil => intro i hi; simp at hi
  | cons t l ih =>
    intro i hi
    cases i with
    | zero => simp [teL, List.getD]
    | succ i =>
      have := ih i (by simpa using hi)
      rw [teL]
      simp only [show (i + 1) * 3 = i * 3 + 3 by omega, List.getD_cons_succ]
      simp only [List.cons_append, List.nil_append, show i * 3 + 3 + 1 = i * 3 + 1 + 3 by omega, show i * 3 + 3 + 2 = i * 3 + 2 + 3 by omega]
      simpa using this
theorem teL_one : ∀ (l : List Te), ∀ u ∈ teL l, u.oneCell' = true := by
  intro l
  induction l with
  | nil => intro u hu; simp [teL] at hu
  | cons t l ih =>
    intro u hu
    rw [teL] at hu
    rcases List.mem_append.1 hu with hu | hu
    · simp at hu
      rcases hu with rfl | rfl | rfl <;> rfl
    · exact ih u hu
/-- A row of tents of the call's own. -/
def To (base : Nat) (w : World) (v : Value) (l : List Te) : Prop := (∀ t ∈ l, Tw t) ∧ w.ownsRow base 132 3 v l.length (teL l)
theorem To.nil (base : Nat) (w : World) : To base w (.slice none 0 0) [] := ⟨(fun t ht => by cases ht), World.ownsRow_nil w base _ 3⟩
theorem To.slice {base : Nat} {w : World} {v : Value} {l : List Te} (h : To base w v l) : ∃ a cap, v = .slice a l.length cap ∧ Tz w a cap l := by
  obtain ⟨h1, h3⟩ := h
  rcases h3.2 with ⟨rfl, h0⟩ | ⟨g, cap, cur, rfl, hb, hg, hc1, hc2, hc3, ht⟩
  · have : l = [] := List.length_eq_zero_iff.1 h0
    subst this
    exact ⟨none, 0, rfl, Tz.nil _ _ _ (Nat.zero_le _) (fun _ => rfl)⟩
  · refine ⟨_, cap, rfl, ⟨hc1, hc2, h1, (fun e => by cases e), fun i hi => ?_⟩⟩
    obtain ⟨k0, k1, k2⟩ := teL_get l i hi
    have hadd : ∀ j, (⟨g, 0, none⟩ : Addr).add j = ⟨g, 0 + j, none⟩ := by intro j; unfold Addr.add; split <;> simp_all
    have d0 := h3.cells (g := g) rfl (i * 3) _ k0
    have d1 := h3.cells (g := g) rfl (i * 3 + 1) _ k1
    have d2 := h3.cells (g := g) rfl (i * 3 + 2) _ k2
    rw [hadd] at d0 d1 d2
    exact ⟨g, 0, rfl, (Array.getElem?_eq_some_iff.1 hg).1, d0, d1, d2⟩
theorem To.below {base : Nat} {w w' : World} {v : Value} {l : List Te} (h : To base w v l) (hb : Below w.heap.size w w') : To base w' v l := by
  obtain ⟨h1, h3⟩ := h
  refine ⟨h1, h3.1, ?_⟩
  rcases h3.2 with h0 | ⟨g, cap', cur, k1, k2, k3, k4⟩
  · exact .inl h0
  · exact .inr ⟨g, cap', cur, k1, k2, (hb.block g (Array.getElem?_eq_some_iff.1 k3).1).trans k3, k4⟩
theorem To.lo {base : Nat} {w : World} {v : Value} {l : List Te} (h : To base w v l) {g : Nat} (hg : v.ownBlock = some g) : base ≤ g := (World.ownsRow.lt h.2 g hg).1
/-- 'append(both, a...)'. -/
theorem wpList_append_tes {w : World} {ops : Array Oper} {rest : List Oper} {o : Oper} {a : Act} {Q : Exit → Act → World → Prop}
    (hgd : o.guard = none) (s x : Operand) (ho : o.op = .call { callee := .builtin .append, args := #[s, x], argTypes := #[76, 76] })
    (base : Nat) (v : Value) (l : List Te) (hs : a.eval s = v) (hown : To base w v l) (pa : Option Addr) (pc n : Nat) (m : List Te) (hn : n = m.length) (hx : a.eval x = .slice pa n pc)
    (hp : Tz w pa pc m) (hlen : l.length + m.length ≤ 1000000) (hbase : base ≤ w.heap.size)
    (h : ∀ v' w', To base w' v' (l ++ m) → w.grownBy w' v.ownBlock → wpList Try.prog ops Q rest (a.put o.dst v') w') : wpList Try.prog ops Q (o :: rest) a w := by
  subst hn
  obtain ⟨i0, hi, hz0, hz1, hz2⟩ := info_parts info_te
  cases pa with
  | none =>
    obtain rfl := hp.2.2.2.1 rfl
    have hm : m = [] := List.length_eq_zero_iff.1 (Nat.le_zero.1 hp.1)
    subst hm
    exact wpList_append_own_none hgd s x 76 ho base 132 i0 3 Try.underlying76 hi v l.length (teL l) hs hown.2 hx (h v w (by simpa using hown) (World.grownBy.refl w _))
  | some ad =>
    refine wpList_append_own_at w hgd s x 76 ho base 132 i0 (.agg #[.int .i64 0, .int .i64 0, .int .i64 0]) 3 24 Try.underlying76 hi hz0 hz1 hz2 rfl (by decide) v l.length (teL l) hs hown.2 ad m.length pc (teL m) hx (teL_len m) ?_ (teL_one m) (by unfold maxLen; omega) (by omega) hbase ?_
    · intro j u hj
      have hjl : j < m.length * 3 := by
        rcases Nat.lt_or_ge j (m.length * 3) with h1 | h1
        · exact h1
        · rw [List.getElem?_eq_none (by rw [teL_len]; exact h1)] at hj; cases hj
      obtain ⟨b, off, e, _, c0, c1, c2⟩ := hp.2.2.2.2 (j / 3) (by omega)
      cases e
      obtain ⟨k0, k1, k2⟩ := teL_get m (j / 3) (by omega)
      have hadd : (⟨b, off, none⟩ : Addr).add j = ⟨b, off + j, none⟩ := by unfold Addr.add; split <;> simp_all
      rw [hadd]
      have h3 : j % 3 = 0 ∨ j % 3 = 1 ∨ j % 3 = 2 := by omega
      rcases h3 with h3 | h3 | h3
      · rw [show j / 3 * 3 = j by omega] at c0 k0
        rw [c0, ← hj, k0]
      · rw [show off + j / 3 * 3 + 1 = off + j by omega] at c1
        rw [show j / 3 * 3 + 1 = j by omega] at k1
        rw [c1, ← hj, k1]
      · rw [show off + j / 3 * 3 + 2 = off + j by omega] at c2
        rw [show j / 3 * 3 + 2 = j by omega] at k2
        rw [c2, ← hj, k2]
    · intro v' w' k1 k2 _ _
      refine h v' w' ⟨fun s hs => ?_, ?_⟩ k2
      · rcases List.mem_append.1 hs with hs | hs
        · exact hown.1 s hs
        · exact hp.2.2.1 s hs
      · rw [teL_append, List.length_append]
        exact k1

/-- A part of 0 makes all 0. -/
theorem alQ_zero {l : List Te} {cs : List Int} {j : Nat} (hj : j < l.length) (h : paQ (l.getD j Te.none) (cs.getD j 0) = 0) : alQ l cs = 0 := by
  have : ∀ k, j < k → alK l cs k = 0 := by
    intro k
    induction k with
    | zero => intro h1; omega
    | succ k ih =>
      intro h1
      rw [alK_succ]
      by_cases e : j = k
      · subst e
        rw [h, Rat.mul_zero]
      · rw [ih (by omega), Rat.zero_mul]
  exact this _ hj

end Go.Proofs.Ytfpeioccnpinkaa

namespace Go.Proofs.Ytfpeioccnpinkaa

/-- A number that is a field. -/
def fdB (n : Int) : Bool := decide (-32768 ≤ n ∧ n ≤ 32767)
theorem fdB_iff {n : Int} : fdB n = true ↔ -32768 ≤ n ∧ n ≤ 32767 := by unfold fdB; exact decide_eq_true_iff

end Go.Proofs.Ytfpeioccnpinkaa
