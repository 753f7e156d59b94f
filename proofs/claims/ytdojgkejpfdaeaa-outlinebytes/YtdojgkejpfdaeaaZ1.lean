/-
  What is known of a slice of bytes in a world: where it is read (Rb), and where it is a row of the call's own (Rw). Two laws on append. Worlds that are as they were but for some blocks (Keep).
  How things of the language lie in a world, one for all: their cells, and what these lead to (El); rows of them that are read (Gr), and of the call's own (Gw).
  A block of cells, known whole (Bk). Nothing here is a walk.
-/
import Derived.Test.YtdojgkejpfdaeaaProg
import Derived.WalkKit
import Derived.ProofKit
import Derived.Below
import Derived.Laws.AppendOwnNone
import Derived.Maps.AppendAt
import Derived.Maps.OwnSet
namespace Go.Proofs.Ytdojgkejpfdaeaa
open Go.RowKit
set_option linter.unusedSimpArgs false
set_option linter.unusedVariables false


/-- Every number is a byte. -/
def Byt (xs : List Nat) : Prop := ∀ x ∈ xs, x < 256
theorem Byt.cons {x : Nat} {xs : List Nat} (h : Byt (x :: xs)) : x < 256 ∧ Byt xs := ⟨h x (by simp), fun y hy => h y (by simp [hy])⟩
theorem Byt.mk {x : Nat} {xs : List Nat} (hx : x < 256) (h : Byt xs) : Byt (x :: xs) := by
  intro y hy; rcases List.mem_cons.1 hy with rfl | hy
  · exact hx
  · exact h y hy
theorem Byt.nil : Byt [] := by intro x hx; cases hx
theorem Byt.append {xs ys : List Nat} (h : Byt xs) (k : Byt ys) : Byt (xs ++ ys) := by
  intro x hx; rcases List.mem_append.1 hx with hx | hx
  · exact h x hx
  · exact k x hx
theorem Byt.take {xs : List Nat} (h : Byt xs) (n : Nat) : Byt (xs.take n) := fun x hx => h x (List.mem_of_mem_take hx)
theorem Byt.drop {xs : List Nat} (h : Byt xs) (n : Nat) : Byt (xs.drop n) := fun x hx => h x (List.mem_of_mem_drop hx)
theorem Byt.getD {xs : List Nat} (h : Byt xs) (i : Nat) : xs.getD i 0 < 256 := by
  rw [List.getD_eq_getElem?_getD]
  by_cases hi : i < xs.length
  · rw [List.getElem?_eq_getElem hi]; exact h _ (List.getElem_mem hi)
  · rw [List.getElem?_eq_none (by omega)]; decide

/-- A byte as a value. -/
def Y (n : Nat) : Value := .int .u8 (n : Int)

/-- A slice of bytes: its address and capacity, and the bytes that are read there. -/
def Rb (w : World) (a : Option Addr) (cap : Nat) (xs : List Nat) : Prop :=
  Byt xs ∧ xs.length ≤ cap ∧ cap ≤ maxLen ∧ (a = none → cap = 0) ∧
  (xs = [] ∨ ∃ b off, a = some ⟨b, off, none⟩ ∧ b < w.heap.size ∧ ∀ i, i < xs.length → w.cell? ⟨b, off + i, none⟩ = some (.int .u8 (xs.getD i 0 : Nat)))

theorem Rb.lim {w : World} {a : Option Addr} {cap : Nat} {xs : List Nat} (h : Rb w a cap xs) : Byt xs := h.1
theorem Rb.le {w : World} {a : Option Addr} {cap : Nat} {xs : List Nat} (h : Rb w a cap xs) : xs.length ≤ cap := h.2.1
theorem Rb.cap {w : World} {a : Option Addr} {cap : Nat} {xs : List Nat} (h : Rb w a cap xs) : cap ≤ maxLen := h.2.2.1

/-- Where the bytes lie (a plain name, which no walk looks behind). -/
def Fb (w : World) (a : Option Addr) (xs : List Nat) : Prop :=
  xs = [] ∨ ∃ b off, a = some ⟨b, off, none⟩ ∧ b < w.heap.size ∧ ∀ i, i < xs.length → w.cell? ⟨b, off + i, none⟩ = some (.int .u8 (xs.getD i 0 : Nat))

theorem Rb.fm {w : World} {a : Option Addr} {cap : Nat} {xs : List Nat} (h : Rb w a cap xs) : Fb w a xs := h.2.2.2.2

theorem Fb.at {w wr : World} {a : Option Addr} {xs : List Nat} (h : Fb w a xs) (hb : Below w.heap.size w wr) (k : Nat) (hk : k < xs.length) :
    ∃ b off, a = some ⟨b, off, none⟩ ∧ b < w.heap.size ∧ wr.cell? ⟨b, off + k, none⟩ = some (.int .u8 (xs.getD k 0 : Nat)) := by
  rcases h with rfl | ⟨b, off, h1, h2, h3⟩
  · simp at hk
  · exact ⟨b, off, h1, h2, (hb.cell (p := ⟨b, off + k, none⟩) h2).trans (h3 k hk)⟩

theorem Rb.keep {w w' : World} {a : Option Addr} {cap : Nat} {xs : List Nat} (h : Rb w a cap xs) (hs : w.heap.size ≤ w'.heap.size)
    (hb : ∀ b, b < w.heap.size → (∃ o, a = some ⟨b, o, none⟩) → w'.heap[b]? = w.heap[b]?) : Rb w' a cap xs := by
  obtain ⟨h1, h2, h3, h5, h4⟩ := h
  refine ⟨h1, h2, h3, h5, ?_⟩
  rcases h4 with h4 | ⟨b, off, e, hb1, hc⟩
  · exact .inl h4
  · exact .inr ⟨b, off, e, Nat.lt_of_lt_of_le hb1 hs, fun i hi => (World.cell?_of_block (w := w) (a := ⟨b, off + i, none⟩) (hb b hb1 ⟨off, e⟩)).trans (hc i hi)⟩

theorem Rb.below {w w' : World} {a : Option Addr} {cap : Nat} {xs : List Nat} (h : Rb w a cap xs) (hb : Below w.heap.size w w') : Rb w' a cap xs :=
  h.keep hb.size fun b hb1 _ => hb.block b hb1

theorem Rb.take {w : World} {a : Option Addr} {cap : Nat} {xs : List Nat} (h : Rb w a cap xs) (n : Nat) : Rb w a cap (xs.take n) := by
  obtain ⟨h1, h2, h3, h5, h4⟩ := h
  refine ⟨h1.take n, by simp; omega, h3, h5, ?_⟩
  rcases h4 with rfl | ⟨b, off, e, hb1, hc⟩
  · exact .inl (by simp)
  · refine .inr ⟨b, off, e, hb1, fun i hi => ?_⟩
    simp at hi
    rw [hc i (by omega)]
    simp [List.getD, show i < n by omega]

theorem Rb.nil (w : World) (a : Option Addr) (cap : Nat) (h : cap ≤ maxLen) (h0 : a = none → cap = 0) : Rb w a cap [] := ⟨Byt.nil, Nat.zero_le _, h, h0, .inl rfl⟩

/-- A row of the call's own. -/
def Rw (e : TypeId) (base : Nat) (w : World) (a : Option Addr) (cap : Nat) (xs : List Nat) : Prop :=
  Byt xs ∧ w.ownsRow base e 1 (.slice a xs.length cap) xs.length (xs.map Y)

theorem Rw.lim {e : TypeId} {base : Nat} {w : World} {a : Option Addr} {cap : Nat} {xs : List Nat} (h : Rw e base w a cap xs) : Byt xs := h.1

theorem Rw.rd {e : TypeId} {base : Nat} {w : World} {a : Option Addr} {cap : Nat} {xs : List Nat} (h : Rw e base w a cap xs) : Rb w a cap xs := by
  obtain ⟨hl, h⟩ := h
  rcases h.2 with ⟨hv, h0⟩ | ⟨g, cap', cur, hv, hb, hg, hc1, hc2, hc3, ht⟩
  · have : xs = [] := List.length_eq_zero_iff.1 h0
    subst this
    simp at hv
    exact Rb.nil _ _ _ (by rw [hv.2]; exact Nat.zero_le _) (fun _ => hv.2)
  · simp at hv
    obtain ⟨rfl, rfl⟩ := hv
    refine ⟨hl, hc1, hc2, (by simp), .inr ⟨g, 0, rfl, (Array.getElem?_eq_some_iff.1 hg).1, fun i hi => ?_⟩⟩
    have := h.cells (g := g) rfl i (Y (xs.getD i 0)) (by simp [List.getD, hi])
    have hadd : (⟨g, 0, none⟩ : Addr).add i = ⟨g, 0 + i, none⟩ := by unfold Addr.add; split <;> simp_all
    rw [hadd] at this; exact this

theorem ownsRow_monoB {w : World} {base base' : Nat} {e : TypeId} {size : Nat} {v : Value} {n : Nat} {xs : List Value} (h : w.ownsRow base e size v n xs) (hb : base' ≤ base) : w.ownsRow base' e size v n xs := by
  refine ⟨h.1, ?_⟩
  rcases h.2 with h0 | ⟨g, cap, cur, h1, h2, h3⟩
  · exact .inl h0
  · exact .inr ⟨g, cap, cur, h1, Nat.le_trans hb h2, h3⟩

theorem Rw.mono {e : TypeId} {base base' : Nat} {w : World} {a : Option Addr} {cap : Nat} {xs : List Nat} (h : Rw e base w a cap xs) (hb : base' ≤ base) : Rw e base' w a cap xs := ⟨h.1, ownsRow_monoB h.2 hb⟩

theorem Rw.below {e : TypeId} {base : Nat} {w w' : World} {a : Option Addr} {cap : Nat} {xs : List Nat} (h : Rw e base w a cap xs) (hb : Below w.heap.size w w') : Rw e base w' a cap xs := by
  refine ⟨h.1, h.2.1, ?_⟩
  rcases h.2.2 with h0 | ⟨g, cap', cur, h1, h2, h3, h4⟩
  · exact .inl h0
  · exact .inr ⟨g, cap', cur, h1, h2, (hb.block g (Array.getElem?_eq_some_iff.1 h3).1).trans h3, h4⟩

/-- Out of what append leaves. -/
theorem Rw.of {e : TypeId} {base : Nat} {w : World} {v : Value} {n : Nat} {xs : List Nat} (hl : Byt xs) (h : w.ownsRow base e 1 v n (xs.map Y)) : ∃ a cap, v = .slice a xs.length cap ∧ Rw e base w a cap xs := by
  have hn : n = xs.length := by have := h.1; simp at this; omega
  subst hn
  rcases h.2 with ⟨hv, h0⟩ | ⟨g, cap, cur, hv, _⟩
  · exact ⟨none, 0, by rw [hv, h0], hl, by rw [h0] at h ⊢; rw [hv] at h; exact h⟩
  · subst hv; exact ⟨_, cap, rfl, hl, h⟩

/-- A view of a block that is known whole. -/
theorem rb_block {w : World} {g : Nat} {zs : List Nat} {e : TypeId} (h : w.heap[g]? = some (.cells (zs.map Y).toArray e (0, 0))) (hl : Byt zs) (off n cap : Nat) (h1 : off + n ≤ zs.length) (h2 : n ≤ cap) (h3 : cap ≤ maxLen) :
    Rb w (some ⟨g, off, none⟩) cap ((zs.drop off).take n) := by
  refine ⟨(hl.drop off).take n, by simp; omega, h3, (by simp), .inr ⟨g, off, rfl, (Array.getElem?_eq_some_iff.1 h).1, fun i hi => ?_⟩⟩
  simp at hi
  rw [cell_of_row w g (off + i) _ e (0, 0) h]
  simp [List.getD, Y, show off + i < zs.length by omega, show i < n by omega]

theorem rb_new (w : World) (e : TypeId) (zs : List Nat) (cs : Array Value) (hc : cs = (zs.map Y).toArray) (hl : Byt zs) (hm : zs.length ≤ maxLen) : Rb (w.alloc (.cells cs e)) (some ⟨w.heap.size, 0, none⟩) zs.length zs := by
  subst hc
  have := rb_block (heap_alloc_new w (.cells (zs.map Y).toArray e)) hl 0 zs.length zs.length (by omega) (Nat.le_refl _) hm
  simpa using this

/-- What append leaves, in the walk's own spelling. -/
theorem own_snocB {w : World} {base : Nat} {e : TypeId} {v : Value} {n z : Nat} {zs : List Nat} (h : w.ownsRow base e 1 v n (List.map Y zs ++ [Y z])) : w.ownsRow base e 1 v n ((zs ++ [z]).map Y) := by
  rw [List.map_append]; exact h

theorem oneCell_Y (xs : List Nat) : ∀ u ∈ xs.map Y, u.oneCell' = true := by
  intro u hu
  obtain ⟨x, _, rfl⟩ := List.mem_map.1 hu
  rfl

section
variable {P : Program} {w : World} {ops : Array Oper} {rest : List Oper} {o : Oper} {a : Act} {Q : Exit → Act → World → Prop}

/-- 'append(out, src...)': src is read, out is the call's own. -/
theorem wpList_append_rb (hgd : o.guard = none) (s x : Operand) (t : TypeId) (ho : o.op = .call { callee := .builtin .append, args := #[s, x], argTypes := #[t, t] })
    (base : Nat) (e : TypeId) (i : TypeInfo) (ht : P.underlying t = some (.slice e)) (hi : P.info? e = some i) (hz : i.zero = some (.int .u8 0)) (hsize : i.size = 1) (hby : i.bytes = 1)
    (v : Value) (n : Nat) (ys : List Nat) (hs : a.eval s = v) (hown : w.ownsRow base e 1 v n (ys.map Y))
    (ad : Option Addr) (c m : Nat) (zs : List Nat) (hx : a.eval x = .slice ad m c) (hm : m = zs.length) (hrd : Rb w ad c zs) (hlen : n + zs.length ≤ 2000000000) (hbase : base ≤ w.heap.size)
    (h : ∀ v' w', w'.ownsRow base e 1 v' (n + zs.length) ((ys ++ zs).map Y) → w.grownBy w' v.ownBlock → (v'.ownBlock = v.ownBlock ∨ v'.ownBlock = some w.heap.size) → wpList P ops Q rest (a.put o.dst v') w') : wpList P ops Q (o :: rest) a w := by
  subst hm
  cases ad with
  | none =>
    have hc : c = 0 := hrd.2.2.2.1 rfl
    have hzs : zs = [] := by
      rcases hrd.2.2.2.2 with h0 | ⟨b, off, e', _⟩
      · exact h0
      · cases e'
    subst hzs; subst hc
    refine wpList_append_own_none hgd s x t ho base e i 1 ht hi v n (ys.map Y) hs hown hx (h v w (by simpa using hown) (World.grownBy.refl w _) (.inl rfl))
  | some ad =>
    refine wpList_append_own_at w hgd s x t ho base e i (.int .u8 0) 1 1 ht hi hz hsize hby rfl (by decide) v n (ys.map Y) hs hown ad zs.length c (zs.map Y) hx (by simp) ?_ (oneCell_Y zs) (by unfold maxLen; omega) (by omega) hbase ?_
    · intro j u hj
      rcases hrd.2.2.2.2 with rfl | ⟨b, off, e', hb, hc⟩
      · simp at hj
      · simp at e'; subst e'
        have hjl : j < zs.length := by
          rcases Nat.lt_or_ge j zs.length with h1 | h1
          · exact h1
          · rw [List.getElem?_eq_none (by simpa using h1)] at hj; cases hj
        have hadd : (⟨b, off, none⟩ : Addr).add j = ⟨b, off + j, none⟩ := by unfold Addr.add; split <;> simp_all
        rw [hadd, hc j hjl]
        rw [List.getElem?_map, List.getElem?_eq_getElem hjl] at hj
        simp at hj; rw [← hj]; simp [List.getD, hjl, Y]
    · intro v' w' h1 h2 _ h3
      exact h v' w' (by rw [List.map_append]; exact h1) h2 h3

/-- 'append(out, x)': x is laid in a block of its own first. -/
theorem wpList_append_oneB (hgd : o.guard = none) (s x : Operand) (t : TypeId) (ho : o.op = .call { callee := .builtin .append, args := #[s, x], argTypes := #[t, t] })
    (base : Nat) (e : TypeId) (i : TypeInfo) (ht : P.underlying t = some (.slice e)) (hi : P.info? e = some i) (hz : i.zero = some (.int .u8 0)) (hsize : i.size = 1) (hby : i.bytes = 1)
    (v : Value) (n : Nat) (ys : List Nat) (hs : a.eval s = v) (hown : w.ownsRow base e 1 v n (ys.map Y))
    (g z : Nat) (hx : a.eval x = .slice (some ⟨g, 0, none⟩) 1 1) (hc : w.cell? ⟨g, 0, none⟩ = some (.int .u8 (z : Int))) (hlen : n + 1 ≤ 2000000000) (hbase : base ≤ w.heap.size)
    (h : ∀ v' w', w'.ownsRow base e 1 v' (n + 1) ((ys ++ [z]).map Y) → w.grownBy w' v.ownBlock → (v'.ownBlock = v.ownBlock ∨ v'.ownBlock = some w.heap.size) → wpList P ops Q rest (a.put o.dst v') w') : wpList P ops Q (o :: rest) a w := by
  refine wpList_append_own_at w hgd s x t ho base e i (.int .u8 0) 1 1 ht hi hz hsize hby rfl (by decide) v n (ys.map Y) hs hown ⟨g, 0, none⟩ 1 1 [Y z] hx rfl ?_ (oneCell_Y [z]) (by unfold maxLen; omega) (by omega) hbase ?_
  · intro j u hj
    match j, hj with
    | 0, hj => simp at hj; subst hj; simpa [Addr.add, Y] using hc
  · intro v' w' h1 h2 _ h3
    exact h v' w' (by rw [List.map_append]; exact h1) h2 h3
end

/-- The blocks of G are as they were, and so are the streams; no block has gone. -/
structure Keep (G : Nat → Prop) (w w' : World) : Prop where
  os : w'.os = w.os
  tape : w'.tape = w.tape
  output : w'.output = w.output
  size : w.heap.size ≤ w'.heap.size
  block : ∀ k, G k → w'.heap[k]? = w.heap[k]?

theorem Keep.refl (G : Nat → Prop) (w : World) : Keep G w w := ⟨rfl, rfl, rfl, Nat.le_refl _, fun _ _ => rfl⟩
theorem Keep.trans {G : Nat → Prop} {a b c : World} (h : Keep G a b) (k : Keep G b c) : Keep G a c :=
  ⟨k.os.trans h.os, k.tape.trans h.tape, k.output.trans h.output, Nat.le_trans h.size k.size, fun i hi => (k.block i hi).trans (h.block i hi)⟩
theorem Keep.mono {G G' : Nat → Prop} {w w' : World} (h : Keep G w w') (hG : ∀ k, G' k → G k) : Keep G' w w' := ⟨h.os, h.tape, h.output, h.size, fun k hk => h.block k (hG k hk)⟩
theorem Keep.of_below {G : Nat → Prop} {w w' : World} {B : Nat} (h : Below B w w') (hG : ∀ k, G k → k < B) : Keep G w w' := ⟨h.os, h.tape, h.output, h.size, fun k hk => h.block k (hG k hk)⟩
theorem Keep.below {G : Nat → Prop} {w w' : World} {B : Nat} (h : Keep G w w') (hG : ∀ k, k < B → G k) : Below B w w' := ⟨h.os, h.tape, h.output, h.size, fun k hk => h.block k (hG k hk)⟩
theorem Keep.alloc {G : Nat → Prop} {a w : World} (h : Keep G a w) (hG : ∀ k, G k → k < w.heap.size) (o : Obj) : Keep G a (w.alloc o) :=
  h.trans (Keep.of_below ((Below.refl w.heap.size w).alloc (Nat.le_refl _) o) hG)
theorem Keep.setCell {G : Nat → Prop} {a w : World} (h : Keep G a w) {p : Addr} (hp : ¬ G p.block) (u : Value) : Keep G a (w.setCell p u) :=
  h.trans ⟨rfl, rfl, rfl, by simp [World.setCell], fun k hk => Below.heap_setCell _ _ _ _ (fun e => hp (e ▸ hk))⟩
theorem Keep.grown {G : Nat → Prop} {a w w' : World} {row : Option Nat} (h : Keep G a w) (hg : w.grownBy w' row) (hG : ∀ k, G k → k < w.heap.size) (hr : ∀ k, row = some k → ¬ G k) : Keep G a w' :=
  h.trans ⟨hg.os, hg.tape, hg.output, hg.size, fun k hk => hg.block k (hG k hk) (fun e => hr k e.symm hk)⟩
theorem Keep.turned {G : Nat → Prop} {a w w' : World} {b : Nat} (h : Keep G a w) (ht : w.mapTurned w' b) (hG : ∀ k, G k → k < w.heap.size) (hb : ¬ G b) : Keep G a w' :=
  h.grown ht.grown hG (fun k hk => by cases hk; exact hb)
theorem Keep.cell {G : Nat → Prop} {w w' : World} (h : Keep G w w') {p : Addr} (hp : G p.block) : w'.cell? p = w.cell? p := World.cell?_of_block (w := w) (h.block p.block hp)
theorem Rb.kept {G : Nat → Prop} {w w' : World} {a : Option Addr} {cap : Nat} {xs : List Nat} (h : Rb w a cap xs) (hk : Keep G w w') (hG : ∀ b o, a = some ⟨b, o, none⟩ → G b) : Rb w' a cap xs :=
  h.keep hk.size fun b _ ⟨o, e⟩ => hk.block b (hG b o e)

/-- A number of 64 bits with a sign. -/
def I64 (n : Int) : Prop := -9223372036854775808 ≤ n ∧ n ≤ 9223372036854775807
theorem rt_bool {a b : Bool} (h : a = b) : Ending.returned (.bool a) = .returned (.bool b) := by rw [h]
theorem rt_int {a b : Int} {k : IntKind} (h : a = b) : Ending.returned (.int k a) = .returned (.int k b) := by rw [h]
theorem rt_slice {a a' : Option Addr} {n n' c c' : Nat} (h1 : a = a') (h2 : n = n') (h3 : c = c') : Ending.returned (.slice a n c) = .returned (.slice a' n' c') := by rw [h1, h2, h3]
theorem bl1 {w : World} (o : Obj) : Below w.heap.size w (w.alloc o) := (Below.refl _ _).alloc (Nat.le_refl _) o
theorem bl2 {w : World} (o o' : Obj) : Below w.heap.size w ((w.alloc o).alloc o') := (bl1 o).alloc (by simp) o'
theorem bl3 {w : World} (o o' o'' : Obj) : Below w.heap.size w (((w.alloc o).alloc o').alloc o'') := (bl2 o o').alloc (by simp; omega) o''

end Go.Proofs.Ytdojgkejpfdaeaa

namespace Go.Proofs.Ytdojgkejpfdaeaa
open Go.RowKit Go.Maps
set_option linter.unusedSimpArgs false
set_option linter.unusedVariables false

/-- How a thing lies: its cells, and what they lead to, all of it in blocks of S. -/
structure El (α : Type) where
  sz : Nat
  dfl : α
  rep : (Nat → Prop) → World → List Value → α → Prop
  len : ∀ {S : Nat → Prop} {w : World} {vs : List Value} {x : α}, rep S w vs x → vs.length = sz
  one : ∀ {S : Nat → Prop} {w : World} {vs : List Value} {x : α}, rep S w vs x → ∀ u ∈ vs, u.oneCell' = true
  stay : ∀ {S S' : Nat → Prop} {w w' : World} {vs : List Value} {x : α}, rep S w vs x → w.heap.size ≤ w'.heap.size → (∀ k, S k → k < w.heap.size → S' k ∧ w'.heap[k]? = w.heap[k]?) → rep S' w' vs x

/-- A number of a kind. -/
def El.num (k : IntKind) (lo hi : Int) : El Int where
  sz := 1
  dfl := 0
  rep := fun _ _ vs z => vs = [.int k z] ∧ lo ≤ z ∧ z ≤ hi
  len := fun h => by rw [h.1]; rfl
  one := fun h u hu => by rw [h.1] at hu; rw [List.mem_singleton.1 hu]; rfl
  stay := fun h _ _ => h
/-- An int. -/
def El.int : El Int := El.num .i64 (-9223372036854775808) 9223372036854775807
theorem El.int_rep {S : Nat → Prop} {w : World} {vs : List Value} {z : Int} : El.int.rep S w vs z ↔ vs = [.int .i64 z] ∧ I64 z := Iff.rfl
/-- A bool. -/
def El.bool : El Bool where
  sz := 1
  dfl := false
  rep := fun _ _ vs z => vs = [.bool z]
  len := fun h => by rw [h]; rfl
  one := fun h u hu => by rw [h] at hu; rw [List.mem_singleton.1 hu]; rfl
  stay := fun h _ _ => h
/-- A text. -/
def El.str : El ByteArray where
  sz := 1
  dfl := ByteArray.empty
  rep := fun _ _ vs z => vs = [.string z] ∧ z.size ≤ maxLen
  len := fun h => by rw [h.1]; rfl
  one := fun h u hu => by rw [h.1] at hu; rw [List.mem_singleton.1 hu]; rfl
  stay := fun h _ _ => h
/-- One behind the other. -/
def El.cat {α β : Type} (E : El α) (F : El β) : El (α × β) where
  sz := E.sz + F.sz
  dfl := (E.dfl, F.dfl)
  rep := fun S w vs p => ∃ us ts, vs = us ++ ts ∧ E.rep S w us p.1 ∧ F.rep S w ts p.2
  len := fun ⟨us, ts, e, h1, h2⟩ => by rw [e, List.length_append, E.len h1, F.len h2]
  one := fun ⟨us, ts, e, h1, h2⟩ u hu => by
    rw [e] at hu
    rcases List.mem_append.1 hu with hu | hu
    · exact E.one h1 u hu
    · exact F.one h2 u hu
  stay := fun ⟨us, ts, e, h1, h2⟩ hs hk => ⟨us, ts, e, E.stay h1 hs hk, F.stay h2 hs hk⟩
/-- The same, under another name. -/
def El.via {α β : Type} (E : El α) (f : β → α) (d : β) : El β where
  sz := E.sz
  dfl := d
  rep := fun S w vs b => E.rep S w vs (f b)
  len := fun h => E.len h
  one := fun h => E.one h
  stay := fun h hs hk => E.stay h hs hk

/-- A row that is read: where its cells are, and what its elements lead to, in blocks of S. -/
def Gr {α : Type} (E : El α) (S : Nat → Prop) (w : World) (a : Option Addr) (cap : Nat) (l : List α) : Prop :=
  l.length ≤ cap ∧ cap ≤ maxLen ∧ (a = none → cap = 0) ∧
  ∀ i, i < l.length → ∃ b off vs, a = some ⟨b, off, none⟩ ∧ b < w.heap.size ∧ E.rep S w vs (l.getD i E.dfl) ∧ ∀ j, j < E.sz → w.cell? ⟨b, off + i * E.sz + j, none⟩ = vs[j]?
theorem Gr.nil {α : Type} (E : El α) (S : Nat → Prop) (w : World) (a : Option Addr) (cap : Nat) (h : cap ≤ maxLen) (h0 : a = none → cap = 0) : Gr E S w a cap [] := ⟨Nat.zero_le _, h, h0, fun i hi => by simp at hi⟩
theorem Gr.lenB {α : Type} {E : El α} {S : Nat → Prop} {w : World} {a : Option Addr} {cap : Nat} {l : List α} (h : Gr E S w a cap l) : l.length ≤ 9223372036854775807 := by
  have h1 := h.1
  have h2 := h.2.1
  unfold maxLen at h2
  omega
theorem Gr.blk {α : Type} {E : El α} {S : Nat → Prop} {w : World} {a : Option Addr} {cap : Nat} {l : List α} (h : Gr E S w a cap l) (hl : l ≠ []) : ∃ b off, a = some ⟨b, off, none⟩ ∧ b < w.heap.size := by
  obtain ⟨b, off, vs, e, hb, _⟩ := h.2.2.2 0 (List.length_pos_iff.2 hl)
  exact ⟨b, off, e, hb⟩
theorem Gr.stay {α : Type} {E : El α} {S S' : Nat → Prop} {w w' : World} {a : Option Addr} {cap : Nat} {l : List α} (h : Gr E S w a cap l) (hs : w.heap.size ≤ w'.heap.size)
    (hk : ∀ k, S k → k < w.heap.size → S' k ∧ w'.heap[k]? = w.heap[k]?) (ha : ∀ b o, a = some ⟨b, o, none⟩ → l ≠ [] → b < w.heap.size → w'.heap[b]? = w.heap[b]?) : Gr E S' w' a cap l := by
  refine ⟨h.1, h.2.1, h.2.2.1, fun i hi => ?_⟩
  obtain ⟨b, off, vs, e, hb, h1, h2⟩ := h.2.2.2 i hi
  have hbk := ha b off e (fun e0 => by rw [e0] at hi; simp at hi) hb
  exact ⟨b, off, vs, e, Nat.lt_of_lt_of_le hb hs, E.stay h1 hs hk, fun j hj => (World.cell?_of_block (w := w) (a := ⟨b, off + i * E.sz + j, none⟩) hbk).trans (h2 j hj)⟩
theorem Gr.below {α : Type} {E : El α} {S : Nat → Prop} {w w' : World} {a : Option Addr} {cap : Nat} {l : List α} (h : Gr E S w a cap l) (hb : Below w.heap.size w w') : Gr E S w' a cap l :=
  h.stay hb.size (fun k hk hl => ⟨hk, hb.block k hl⟩) (fun b o e hl h1 => hb.block b h1)
theorem Gr.wide {α : Type} {E : El α} {S S' : Nat → Prop} {w : World} {a : Option Addr} {cap : Nat} {l : List α} (h : Gr E S w a cap l) (hk : ∀ k, S k → k < w.heap.size → S' k) : Gr E S' w a cap l :=
  h.stay (Nat.le_refl _) (fun k h1 h2 => ⟨hk k h1 h2, rfl⟩) (fun _ _ _ _ _ => rfl)
theorem Gr.at {α : Type} {E : El α} {S : Nat → Prop} {w wr : World} {a : Option Addr} {cap : Nat} {l : List α} (h : Gr E S w a cap l) (hb : Below w.heap.size w wr) (k : Nat) (hk : k < l.length) :
    ∃ b off vs, a = some ⟨b, off, none⟩ ∧ b < w.heap.size ∧ E.rep S wr vs (l.getD k E.dfl) ∧ ∀ j, j < E.sz → wr.cell? ⟨b, off + k * E.sz + j, none⟩ = vs[j]? := by
  obtain ⟨b, off, vs, e, h0, h1, h2⟩ := h.2.2.2 k hk
  exact ⟨b, off, vs, e, h0, E.stay h1 hb.size (fun k hk hl => ⟨hk, hb.block k hl⟩), fun j hj => (hb.cell (p := ⟨b, off + k * E.sz + j, none⟩) h0).trans (h2 j hj)⟩
theorem Gr.take {α : Type} {E : El α} {S : Nat → Prop} {w : World} {a : Option Addr} {cap : Nat} {l : List α} (h : Gr E S w a cap l) (n : Nat) : Gr E S w a cap (l.take n) := by
  refine ⟨Nat.le_trans (by simp; omega) h.1, h.2.1, h.2.2.1, fun i hi => ?_⟩
  have hi' : i < n ∧ i < l.length := by simp at hi; omega
  obtain ⟨b, off, vs, e, h0, h1, h2⟩ := h.2.2.2 i hi'.2
  have eg : (l.take n).getD i E.dfl = l.getD i E.dfl := by simp [List.getD, List.getElem?_take, hi'.1]
  exact ⟨b, off, vs, e, h0, by rw [eg]; exact h1, h2⟩
theorem Gr.from {α : Type} {E : El α} {S : Nat → Prop} {w : World} {b off cap : Nat} {l : List α} (h : Gr E S w (some ⟨b, off, none⟩) cap l) (n : Nat) (hn : n ≤ l.length) : Gr E S w (some ⟨b, off + n * E.sz, none⟩) (cap - n) (l.drop n) := by
  refine ⟨by have := h.1; simp; omega, Nat.le_trans (Nat.sub_le _ _) h.2.1, (fun e => by cases e), fun i hi => ?_⟩
  have hi' : n + i < l.length := by simp at hi; omega
  obtain ⟨b', off', vs, e, h0, h1, h2⟩ := h.2.2.2 (n + i) hi'
  cases e
  have eg : (l.drop n).getD i E.dfl = l.getD (n + i) E.dfl := by simp [List.getD]
  refine ⟨b, off + n * E.sz, vs, rfl, h0, by rw [eg]; exact h1, fun j hj => ?_⟩
  rw [show off + n * E.sz + i * E.sz + j = off + (n + i) * E.sz + j by rw [Nat.add_mul]; omega]
  exact h2 j hj

/-- A row, as a thing. -/
def El.row {α : Type} (E : El α) : El (List α) where
  sz := 1
  dfl := []
  rep := fun S w vs l => ∃ a cap, vs = [.slice a l.length cap] ∧ (∀ b o, a = some ⟨b, o, none⟩ → l ≠ [] → S b) ∧ Gr E S w a cap l ∧ l.length ≤ 140737488351232
  len := fun ⟨a, cap, e, _⟩ => by rw [e]; rfl
  one := fun ⟨a, cap, e, _⟩ u hu => by rw [e] at hu; rw [List.mem_singleton.1 hu]; rfl
  stay := fun ⟨a, cap, e, hS, h, hlb⟩ hs hk => by
    refine ⟨a, cap, e, fun b o e1 hl => ?_, h.stay hs hk (fun b o e1 hl hb => (hk b (hS b o e1 hl) hb).2), hlb⟩
    obtain ⟨b', o', e2, hb⟩ := h.blk hl
    rw [e1] at e2
    cases e2
    exact (hk b (hS b o e1 hl) hb).1

theorem flat_len' {sz : Nat} : ∀ {vss : List (List Value)}, (∀ i, i < vss.length → (vss.getD i []).length = sz) → vss.flatten.length = vss.length * sz := by
  intro vss
  induction vss with
  | nil => intro _; simp
  | cons vs t ih =>
    intro h
    have h0 : vs.length = sz := h 0 (by simp)
    have h1 := ih (fun i hi => h (i + 1) (by simpa using hi))
    rw [List.flatten_cons, List.length_append, h0, h1, List.length_cons, Nat.add_mul]
    omega
theorem flat_get {sz : Nat} : ∀ {vss : List (List Value)} {i j : Nat}, (∀ i, i < vss.length → (vss.getD i []).length = sz) → i < vss.length → j < sz → vss.flatten[i * sz + j]? = (vss.getD i [])[j]? := by
  intro vss
  induction vss with
  | nil => intro i j _ hi _; simp at hi
  | cons vs t ih =>
    intro i j h hi hj
    have h0 : vs.length = sz := h 0 (by simp)
    cases i with
    | zero => rw [List.flatten_cons, Nat.zero_mul, Nat.zero_add, List.getElem?_append_left (by omega)]; rfl
    | succ i =>
      have h1 := ih (fun i hi => h (i + 1) (by simpa using hi)) (i := i) (j := j) (by simpa using hi) hj
      rw [List.flatten_cons, List.getElem?_append_right (by rw [h0, Nat.add_mul]; omega), h0, show (i + 1) * sz + j - sz = i * sz + j by rw [Nat.add_mul]; omega, h1]
      rfl

/-- A row of the call's own: its elements lead to blocks of S alone, not to the row's own. -/
def Gw {α : Type} (E : El α) (t : TypeId) (base : Nat) (S : Nat → Prop) (w : World) (v : Value) (l : List α) : Prop :=
  ∃ vss : List (List Value), vss.length = l.length ∧ w.ownsRow base t E.sz v l.length vss.flatten ∧ ∀ i, i < l.length → E.rep (fun k => S k ∧ v.ownBlock ≠ some k) w (vss.getD i []) (l.getD i E.dfl)
theorem Gw.nil {α : Type} (E : El α) (t : TypeId) (base : Nat) (S : Nat → Prop) (w : World) : Gw E t base S w (.slice none 0 0) [] := ⟨[], rfl, World.ownsRow_nil w base _ _, fun i hi => by simp at hi⟩
theorem Gw.made {α : Type} {E : El α} {t : TypeId} {base : Nat} {S : Nat → Prop} {w : World} {v : Value} (h : w.ownsRow base t E.sz v 0 []) : Gw E t base S w v [] := ⟨[], rfl, h, fun i hi => by simp at hi⟩
theorem Gw.slice {α : Type} {E : El α} {t : TypeId} {base : Nat} {S : Nat → Prop} {w : World} {v : Value} {l : List α} (h : Gw E t base S w v l) : ∃ a cap, v = .slice a l.length cap ∧ Gr E S w a cap l ∧ ∀ b o, a = some ⟨b, o, none⟩ → base ≤ b ∧ b < w.heap.size := by
  obtain ⟨vss, hl, h3, h4⟩ := h
  have h5 : ∀ i, i < vss.length → (vss.getD i []).length = E.sz := fun i hi => E.len (h4 i (by omega))
  have hown := h3
  rcases h3.2 with ⟨rfl, h0⟩ | ⟨g, cap, cur, rfl, hb, hg, hc1, hc2, hc3, ht⟩
  · have : l = [] := List.length_eq_zero_iff.1 h0
    subst this
    exact ⟨none, 0, rfl, Gr.nil _ _ _ _ _ (Nat.zero_le _) (fun _ => rfl), fun b o e => by cases e⟩
  · refine ⟨_, cap, rfl, ⟨hc1, hc2, (fun e => by cases e), fun i hi => ?_⟩, fun b o e => by cases e; exact ⟨hb, (Array.getElem?_eq_some_iff.1 hg).1⟩⟩
    refine ⟨g, 0, vss.getD i [], rfl, (Array.getElem?_eq_some_iff.1 hg).1, E.stay (h4 i hi) (Nat.le_refl _) (fun k hk _ => ⟨hk.1, rfl⟩), fun j hj => ?_⟩
    have hadd : ∀ j, (⟨g, 0, none⟩ : Addr).add j = ⟨g, 0 + j, none⟩ := by intro j; unfold Addr.add; split <;> simp_all
    have e := flat_get h5 (i := i) (j := j) (by omega) hj
    have hjl : j < (vss.getD i []).length := by rw [h5 i (by omega)]; exact hj
    rw [List.getElem?_eq_getElem hjl] at e ⊢
    have d := hown.cells (g := g) rfl (i * E.sz + j) _ e
    rw [hadd] at d
    rw [← d]
    simp [Nat.add_assoc]
theorem Gw.lo {α : Type} {E : El α} {t : TypeId} {base : Nat} {S : Nat → Prop} {w : World} {v : Value} {l : List α} (h : Gw E t base S w v l) {g : Nat} (hg : v.ownBlock = some g) : base ≤ g ∧ g < w.heap.size := by
  obtain ⟨vss, hl, h3, h4⟩ := h
  exact World.ownsRow.lt h3 g hg
theorem Gw.stay {α : Type} {E : El α} {t : TypeId} {base : Nat} {S S' : Nat → Prop} {w w' : World} {v : Value} {l : List α} (h : Gw E t base S w v l) (hs : w.heap.size ≤ w'.heap.size)
    (hk : ∀ k, S k → v.ownBlock ≠ some k → k < w.heap.size → S' k ∧ w'.heap[k]? = w.heap[k]?) (ho : ∀ k, v.ownBlock = some k → w'.heap[k]? = w.heap[k]?) : Gw E t base S' w' v l := by
  obtain ⟨vss, hl, h3, h4⟩ := h
  refine ⟨vss, hl, ⟨h3.1, ?_⟩, fun i hi => E.stay (h4 i hi) hs (fun k h1 h2 => ⟨⟨(hk k h1.1 h1.2 h2).1, h1.2⟩, (hk k h1.1 h1.2 h2).2⟩)⟩
  rcases h3.2 with h0 | ⟨g, cap', cur, k1, k2, k3, k4⟩
  · exact .inl h0
  · exact .inr ⟨g, cap', cur, k1, k2, (ho g (by rw [k1]; rfl)).trans k3, k4⟩
theorem Gw.below {α : Type} {E : El α} {t : TypeId} {base : Nat} {S : Nat → Prop} {w w' : World} {v : Value} {l : List α} (h : Gw E t base S w v l) (hb : Below w.heap.size w w') : Gw E t base S w' v l :=
  h.stay hb.size (fun k h1 _ h2 => ⟨h1, hb.block k h2⟩) (fun k hk => hb.block k (h.lo hk).2)
/-- The row's block knows its element's type. -/
theorem Gw.ty {α : Type} {E : El α} {t : TypeId} {base : Nat} {S : Nat → Prop} {w : World} {v : Value} {l : List α} (h : Gw E t base S w v l) {g : Nat} (hg : v.ownBlock = some g) : ∃ cur, w.heap[g]? = some (.cells cur t (0, 0)) := by
  obtain ⟨vss, hl, h3, h4⟩ := h
  rcases h3.2 with ⟨e, _⟩ | ⟨g', cap', cur, k1, k2, k3, k4⟩
  · rw [e] at hg; cases hg
  · rw [k1] at hg
    have e : some g' = some g := hg
    injection e with e
    rw [← e]
    exact ⟨cur, k3⟩
/-- Two rows of unlike element types are two blocks. -/
theorem Gw.ne {α β : Type} {E : El α} {F : El β} {t u : TypeId} {base base2 : Nat} {S S2 : Nat → Prop} {w : World} {v x : Value} {l : List α} {m : List β} (h : Gw E t base S w v l) (h2 : Gw F u base2 S2 w x m) (ht : t ≠ u) {g : Nat} (hg : v.ownBlock = some g) : x.ownBlock ≠ some g := by
  intro e
  obtain ⟨c1, k1⟩ := h.ty hg
  obtain ⟨c2, k2⟩ := h2.ty e
  rw [k1] at k2
  simp at k2
  exact ht k2.2
/-- What the walk lays of a row that is grown: the other rows and what is read beside it stay. -/
theorem Gw.beside {α β : Type} {E : El α} {F : El β} {t u : TypeId} {base base2 : Nat} {S S2 : Nat → Prop} {w w' : World} {v x : Value} {l : List α} {m : List β} (h : Gw E t base S w v l) (h2 : Gw F u base2 S2 w x m) (ht : t ≠ u) (hS : ∀ k, S k → x.ownBlock ≠ some k) (hg : w.grownBy w' x.ownBlock) : Gw E t base S w' v l :=
  h.stay hg.size (fun k h1 _ h3 => ⟨h1, hg.block k h3 (fun e => hS k h1 e.symm)⟩) (fun k hk => hg.block k (h.lo hk).2 (fun e => h.ne h2 ht hk e.symm))

/-- 'append(v, x...)'. -/
theorem wpList_append_el {α : Type} {E : El α} {w : World} {ops : Array Oper} {rest : List Oper} {o : Oper} {a : Act} {Q : Exit → Act → World → Prop} (t e : TypeId) {z : Value} {by' : Nat}
    (ht : Try.prog.underlying t = some (.slice e)) (hinfo : (Try.prog.info? e).map (fun i => (i.zero, i.size, i.bytes)) = some (some z, E.sz, by')) (hzs : z.cells.size = E.sz) (hsz : 0 < E.sz) (hby : by' ≤ 1000)
    (hgd : o.guard = none) (s x : Operand) (ho : o.op = .call { callee := .builtin .append, args := #[s, x], argTypes := #[t, t] })
    (base : Nat) (S : Nat → Prop) (v : Value) (l : List α) (hs : a.eval s = v) (hown : Gw E e base S w v l) (pa : Option Addr) (pc n : Nat) (m : List α) (hn : n = m.length) (hx : a.eval x = .slice pa n pc)
    (hp : Gr E (fun k => S k ∧ v.ownBlock ≠ some k) w pa pc m) (hlen : l.length + m.length ≤ 1000000) (hbase : base ≤ w.heap.size)
    (h : ∀ v' w', Gw E e base S w' v' (l ++ m) → w.grownBy w' v.ownBlock → (v'.ownBlock = v.ownBlock ∨ v'.ownBlock = some w.heap.size) → wpList Try.prog ops Q rest (a.put o.dst v') w') : wpList Try.prog ops Q (o :: rest) a w := by
  subst hn
  obtain ⟨i0, hi, hz0, hz1, hz2⟩ := info_parts hinfo
  obtain ⟨vss, hl, h3, h4⟩ := hown
  have grown : ∀ v' w' (uss : List (List Value)), uss.length = m.length → (∀ i, i < m.length → E.rep (fun k => S k ∧ v.ownBlock ≠ some k) w (uss.getD i []) (m.getD i E.dfl)) → w'.ownsRow base e E.sz v' (l.length + m.length) (vss.flatten ++ uss.flatten) → w.grownBy w' v.ownBlock → (v'.ownBlock = v.ownBlock ∨ v'.ownBlock = some w.heap.size) → Gw E e base S w' v' (l ++ m) := by
    intro v' w' uss hul hu k1 k2 k4
    have hst : ∀ vs y, E.rep (fun k => S k ∧ v.ownBlock ≠ some k) w vs y → E.rep (fun k => S k ∧ v'.ownBlock ≠ some k) w' vs y := fun vs y hy => E.stay hy k2.size (fun k hk hlt => ⟨⟨hk.1, by
      rcases k4 with k4 | k4
      · rw [k4]; exact hk.2
      · rw [k4]; intro e'; cases e'; exact absurd hlt (Nat.lt_irrefl _)⟩, k2.block k hlt (fun e' => hk.2 e'.symm)⟩)
    refine ⟨vss ++ uss, by rw [List.length_append, List.length_append, hl, hul], by rw [List.length_append, List.flatten_append]; exact k1, fun i hi => ?_⟩
    by_cases him : i < l.length
    · have e1 : (l ++ m).getD i E.dfl = l.getD i E.dfl := by simp [List.getD, List.getElem?_append_left him]
      have e2 : (vss ++ uss).getD i [] = vss.getD i [] := by simp [List.getD, List.getElem?_append_left (show i < vss.length by omega)]
      rw [e1, e2]
      exact hst _ _ (h4 i him)
    · have him' : i - l.length < m.length := by simp at hi; omega
      have e1 : (l ++ m).getD i E.dfl = m.getD (i - l.length) E.dfl := by simp [List.getD, List.getElem?_append_right (show l.length ≤ i by omega)]
      have e2 : (vss ++ uss).getD i [] = uss.getD (i - l.length) [] := by simp [List.getD, List.getElem?_append_right (show vss.length ≤ i by omega), hl]
      rw [e1, e2]
      exact hst _ _ (hu _ him')
  cases pa with
  | none =>
    obtain rfl := hp.2.2.1 rfl
    have hm : m = [] := List.length_eq_zero_iff.1 (Nat.le_zero.1 hp.1)
    subst hm
    refine wpList_append_own_none hgd s x t ho base e i0 E.sz ht hi v l.length vss.flatten hs h3 hx (h v w (by rw [List.append_nil]; exact ⟨vss, hl, h3, h4⟩) (World.grownBy.refl w _) (.inl rfl))
  | some ad =>
    obtain ⟨uss, hul, hu⟩ : ∃ uss : List (List Value), uss.length = m.length ∧ ∀ i, i < m.length → E.rep (fun k => S k ∧ v.ownBlock ≠ some k) w (uss.getD i []) (m.getD i E.dfl) ∧ ∀ j, j < E.sz → w.cell? (ad.add (i * E.sz + j)) = (uss.getD i [])[j]? := by
      have key : ∀ k, k ≤ m.length → ∃ uss : List (List Value), uss.length = k ∧ ∀ i, i < k → E.rep (fun k => S k ∧ v.ownBlock ≠ some k) w (uss.getD i []) (m.getD i E.dfl) ∧ ∀ j, j < E.sz → w.cell? (ad.add (i * E.sz + j)) = (uss.getD i [])[j]? := by
        intro k
        induction k with
        | zero => exact fun _ => ⟨[], rfl, fun i hi => by omega⟩
        | succ k ih =>
          intro hk
          obtain ⟨uss, h1, h2⟩ := ih (by omega)
          obtain ⟨b, off, vs, e1, hb, hr, hc⟩ := hp.2.2.2 k (by omega)
          cases e1
          refine ⟨uss ++ [vs], by simp [h1], fun i hi => ?_⟩
          by_cases hik : i < k
          · have e2 : (uss ++ [vs]).getD i [] = uss.getD i [] := by simp [List.getD, List.getElem?_append_left (show i < uss.length by omega)]
            rw [e2]
            exact h2 i hik
          · obtain rfl : i = k := by omega
            have e2 : (uss ++ [vs]).getD i [] = vs := by simp [List.getD, ← h1]
            rw [e2]
            refine ⟨hr, fun j hj => ?_⟩
            have hadd : (⟨b, off, none⟩ : Addr).add (i * E.sz + j) = ⟨b, off + (i * E.sz + j), none⟩ := by unfold Addr.add; split <;> simp_all
            rw [hadd, ← Nat.add_assoc]
            exact hc j hj
      exact key m.length (Nat.le_refl _)
    have hul5 : ∀ i, i < uss.length → (uss.getD i []).length = E.sz := fun i hi => E.len (hu i (by omega)).1
    refine wpList_append_own_at w hgd s x t ho base e i0 z E.sz by' ht hi hz0 hz1 hz2 hzs hsz v l.length vss.flatten hs h3 ad m.length pc uss.flatten hx (by rw [flat_len' hul5, hul]) ?_ ?_ (by unfold maxLen; omega) (by
        have := Nat.mul_le_mul hlen hby
        omega) hbase (fun v' w' k1 k2 _ k4 => h v' w' (grown v' w' uss hul (fun i hi => (hu i hi).1) k1 k2 k4) k2 k4)
    · intro j u hj
      have hjl : j < m.length * E.sz := by
        rcases Nat.lt_or_ge j (m.length * E.sz) with h1 | h1
        · exact h1
        · rw [List.getElem?_eq_none (by rw [flat_len' hul5, hul]; exact h1)] at hj; cases hj
      have hjd : j / E.sz < m.length := (Nat.div_lt_iff_lt_mul hsz).2 hjl
      have e1 : j / E.sz * E.sz + j % E.sz = j := by rw [Nat.mul_comm]; exact Nat.div_add_mod j E.sz
      have h1 := (hu (j / E.sz) hjd).2 (j % E.sz) (Nat.mod_lt _ hsz)
      have h2 := flat_get hul5 (i := j / E.sz) (j := j % E.sz) (by omega) (Nat.mod_lt _ hsz)
      rw [e1] at h1 h2
      rw [h1, ← h2, hj]
    · intro u hu1
      obtain ⟨vs, hvs, hu2⟩ := List.mem_flatten.1 hu1
      obtain ⟨i, hi, e1⟩ := List.getElem_of_mem hvs
      have := E.one (hu i (by omega)).1 u
      rw [List.getD_eq_getElem?_getD, List.getElem?_eq_getElem hi, Option.getD_some, e1] at this
      exact this hu2
/-- 'append(v, x)': x is laid in a block of its own first. -/
theorem Gr.one {α : Type} {E : El α} {S : Nat → Prop} {w : World} {g : Nat} {x : α} {vs : List Value} (hr : E.rep S w vs x) (hg : g < w.heap.size) (hc : ∀ j, j < E.sz → w.cell? ⟨g, j, none⟩ = vs[j]?) : Gr E S w (some ⟨g, 0, none⟩) 1 [x] := by
  refine ⟨Nat.le_refl _, by unfold maxLen; omega, (fun e => by cases e), fun i hi => ?_⟩
  obtain rfl : i = 0 := by simpa using hi
  exact ⟨g, 0, vs, rfl, hg, hr, fun j hj => by simpa using hc j hj⟩
theorem Gr.one_new {α : Type} {E : El α} {S : Nat → Prop} {w : World} {x : α} (vs : List Value) (t : TypeId) (hr : E.rep S w vs x) : Gr E S (w.alloc (.cells vs.toArray t)) (some ⟨w.heap.size, 0, none⟩) 1 [x] := by
  refine Gr.one (E.stay hr (bl1 _).size (fun k hk hl => ⟨hk, (bl1 _).block k hl⟩)) (by simp) (fun j hj => ?_)
  have := cell_of_row _ w.heap.size j _ _ (0, 0) (heap_alloc_new w (.cells vs.toArray t))
  rw [this]
  simp

end Go.Proofs.Ytdojgkejpfdaeaa

namespace Go.Proofs.Ytdojgkejpfdaeaa
open Go.RowKit Go.Maps
set_option linter.unusedSimpArgs false
set_option linter.unusedVariables false

/-- A block that holds these cells, and may be written. -/
def Bk (t : TypeId) (w : World) (g : Nat) (cs : List Value) : Prop := w.heap[g]? = some (.cells cs.toArray t (0, 0))
theorem Bk.lt {t : TypeId} {w : World} {g : Nat} {cs : List Value} (h : Bk t w g cs) : g < w.heap.size := (Array.getElem?_eq_some_iff.1 h).1
theorem Bk.below {t : TypeId} {w w' : World} {g : Nat} {cs : List Value} (h : Bk t w g cs) (hb : Below w.heap.size w w') : Bk t w' g cs := (hb.block g h.lt).trans h
theorem Bk.kept {t : TypeId} {G : Nat → Prop} {w w' : World} {g : Nat} {cs : List Value} (h : Bk t w g cs) (hk : Keep G w w') (hg : G g) : Bk t w' g cs := (hk.block g hg).trans h
theorem Bk.new (t : TypeId) (w : World) (cs : List Value) : Bk t (w.alloc (.cells cs.toArray t)) w.heap.size cs := heap_alloc_new w _
theorem Bk.new1 (t : TypeId) (w : World) (o : Obj) (cs : List Value) : Bk t ((w.alloc o).alloc (.cells cs.toArray t)) (w.heap.size + 1) cs := by
  have h := Bk.new t (w.alloc o) cs
  simpa using h
theorem Bk.cell {t : TypeId} {w : World} {g : Nat} {cs : List Value} (h : Bk t w g cs) (j : Nat) (hj : j < cs.length) : w.cell? ⟨g, j, none⟩ = cs[j]? := by
  rw [cell_of_row w g j _ _ (0, 0) h]
  simp
theorem Bk.fz {t : TypeId} {w : World} {g : Nat} {cs : List Value} (h : Bk t w g cs) (j : Nat) : w.frozen? ⟨g, j, none⟩ = false := frozen_of_row w g j _ _ h
theorem Bk.two {t : TypeId} {w : World} {g : Nat} {x y : Value} (h : Bk t w g [x, y]) : w.cell? ⟨g, 0, none⟩ = some x ∧ w.cell? ⟨g, 1, none⟩ = some y ∧ w.frozen? ⟨g, 0, none⟩ = false ∧ w.frozen? ⟨g, 1, none⟩ = false :=
  ⟨h.cell 0 (by simp), h.cell 1 (by simp), h.fz 0, h.fz 1⟩
theorem Bk.three {t : TypeId} {w : World} {g : Nat} {x y z : Value} (h : Bk t w g [x, y, z]) : w.cell? ⟨g, 0, none⟩ = some x ∧ w.cell? ⟨g, 1, none⟩ = some y ∧ w.cell? ⟨g, 2, none⟩ = some z ∧ w.frozen? ⟨g, 0, none⟩ = false ∧ w.frozen? ⟨g, 1, none⟩ = false ∧ w.frozen? ⟨g, 2, none⟩ = false :=
  ⟨h.cell 0 (by simp), h.cell 1 (by simp), h.cell 2 (by simp), h.fz 0, h.fz 1, h.fz 2⟩
theorem Bk.four {t : TypeId} {w : World} {g : Nat} {x y z u : Value} (h : Bk t w g [x, y, z, u]) : w.cell? ⟨g, 0, none⟩ = some x ∧ w.cell? ⟨g, 1, none⟩ = some y ∧ w.cell? ⟨g, 2, none⟩ = some z ∧ w.cell? ⟨g, 3, none⟩ = some u ∧ w.frozen? ⟨g, 0, none⟩ = false ∧ w.frozen? ⟨g, 1, none⟩ = false ∧ w.frozen? ⟨g, 2, none⟩ = false ∧ w.frozen? ⟨g, 3, none⟩ = false :=
  ⟨h.cell 0 (by simp), h.cell 1 (by simp), h.cell 2 (by simp), h.cell 3 (by simp), h.fz 0, h.fz 1, h.fz 2, h.fz 3⟩
theorem Bk.set {t : TypeId} {w : World} {g : Nat} {cs : List Value} (h : Bk t w g cs) (j : Nat) (z : Value) : Bk t (w.setCell ⟨g, j, none⟩ z) g (cs.set j z) := by
  have := heap_setCell_same w g j _ _ z h
  unfold Bk
  rw [this]
  simp
theorem Bk.other {t : TypeId} {w : World} {g b : Nat} {cs : List Value} (h : Bk t w g cs) (j : Nat) (z : Value) (hb : g ≠ b) : Bk t (w.setCell ⟨b, j, none⟩ z) g cs := (Below.heap_setCell _ _ _ _ (fun e => hb e)).trans h
theorem Bk.grown {t : TypeId} {w w' : World} {g : Nat} {cs : List Value} {v : Option Nat} (h : Bk t w g cs) (hg : w.grownBy w' v) (hv : v ≠ some g) : Bk t w' g cs := (hg.block g h.lt (fun e => hv e.symm)).trans h

end Go.Proofs.Ytdojgkejpfdaeaa
