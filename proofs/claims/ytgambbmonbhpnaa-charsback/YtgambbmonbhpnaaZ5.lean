/-
  How things of the language lie in a world, one for all: their cells, and what these lead to (El); rows of them that are read (Gr), and of the call's own (Gw).
  A block of cells, known whole (Bk). Nothing here is a walk.
  How ranges lie in a world; a text's iterator.
  chars.glyphsFit, Formed, Glyph: the walks.
-/
import Derived.Test.YtgambbmonbhpnaaZ1
import Derived.Test.YtgambbmonbhpnaaZ4
import Derived.Laws.RangeAny
import Derived.Deep.CutBlock
import Derived.Deep.CutRange
namespace Go.Proofs.Ytgambbmonbhpnaa
open Go.RowKit Go.Maps
set_option linter.unusedSimpArgs false
set_option linter.unusedVariables false

/-- How a thing lies: its cells, and what they lead to, all of it in blocks of S. -/
structure El (α : Type) where
  sz : Nat
  dfl : α
  rep : (Nat → Prop) → World → List Value → α → Prop
  len : ∀ {S : Nat → Prop} {w : World} {vs : List Value} {x : α}, rep S w vs x → vs.length = sz
  one : ∀ {S : Nat → Prop} {w : World} {vs : List Value} {x : α}, rep S w vs x → ∀ u ∈ vs, u.oneCell' = true
  stay : ∀ {S S' : Nat → Prop} {w w' : World} {vs : List Value} {x : α}, rep S w vs x → w.heap.size ≤ w'.heap.size → (∀ k, S k → k < w.heap.size → S' k ∧ w'.heap[k]? = w.heap[k]?) → rep S' w' vs x

/-- A number of a kind. -/
def El.num (k : IntKind) (lo hi : Int) : El Int where
  sz := 1
  dfl := 0
  rep := fun _ _ vs z => vs = [.int k z] ∧ lo ≤ z ∧ z ≤ hi
  len := fun h => by rw [h.1]; rfl
  one := fun h u hu => by rw [h.1] at hu; rw [List.mem_singleton.1 hu]; rfl
  stay := fun h _ _ => h
/-- An int. -/
def El.int : El Int := El.num .i64 (-9223372036854775808) 9223372036854775807
theorem El.int_rep {S : Nat → Prop} {w : World} {vs : List Value} {z : Int} : El.int.rep S w vs z ↔ vs = [.int .i64 z] ∧ I64 z := Iff.rfl
/-- A bool. -/
def El.bool : El Bool where
  sz := 1
  dfl := false
  rep := fun _ _ vs z => vs = [.bool z]
  len := fun h => by rw [h]; rfl
  one := fun h u hu => by rw [h] at hu; rw [List.mem_singleton.1 hu]; rfl
  stay := fun h _ _ => h
/-- A text. -/
def El.str : El ByteArray where
  sz := 1
  dfl := ByteArray.empty
  rep := fun _ _ vs z => vs = [.string z] ∧ z.size ≤ maxLen
  len := fun h => by rw [h.1]; rfl
  one := fun h u hu => by rw [h.1] at hu; rw [List.mem_singleton.1 hu]; rfl
  stay := fun h _ _ => h
/-- One behind the other. -/
def El.cat {α β : Type} (E : El α) (F : El β) : El (α × β) where
  sz := E.sz + F.sz
  dfl := (E.dfl, F.dfl)
  rep := fun S w vs p => ∃ us ts, vs = us ++ ts ∧ E.rep S w us p.1 ∧ F.rep S w ts p.2
  len := fun ⟨us, ts, e, h1, h2⟩ => by rw [e, List.length_append, E.len h1, F.len h2]
  one := fun ⟨us, ts, e, h1, h2⟩ u hu => by
    rw [e] at hu
    rcases List.mem_append.1 hu with hu | hu
    · exact E.one h1 u hu
    · exact F.one h2 u hu
  stay := fun ⟨us, ts, e, h1, h2⟩ hs hk => ⟨us, ts, e, E.stay h1 hs hk, F.stay h2 hs hk⟩
/-- The same, under another name. -/
def El.via {α β : Type} (E : El α) (f : β → α) (d : β) : El β where
  sz := E.sz
  dfl := d
  rep := fun S w vs b => E.rep S w vs (f b)
  len := fun h => E.len h
  one := fun h => E.one h
  stay := fun h hs hk => E.stay h hs hk

/-- A row that is read: where its cells are, and what its elements lead to, in blocks of S. -/
def Gr {α : Type} (E : El α) (S : Nat → Prop) (w : World) (a : Option Addr) (cap : Nat) (l : List α) : Prop :=
  l.length ≤ cap ∧ cap ≤ maxLen ∧ (a = none → cap = 0) ∧
  ∀ i, i < l.length → ∃ b off vs, a = some ⟨b, off, none⟩ ∧ b < w.heap.size ∧ E.rep S w vs (l.getD i E.dfl) ∧ ∀ j, j < E.sz → w.cell? ⟨b, off + i * E.sz + j, none⟩ = vs[j]?
theorem Gr.nil {α : Type} (E : El α) (S : Nat → Prop) (w : World) (a : Option Addr) (cap : Nat) (h : cap ≤ maxLen) (h0 : a = none → cap = 0) : Gr E S w a cap [] := ⟨Nat.zero_le _, h, h0, fun i hi => by simp at hi⟩
theorem Gr.lenB {α : Type} {E : El α} {S : Nat → Prop} {w : World} {a : Option Addr} {cap : Nat} {l : List α} (h : Gr E S w a cap l) : l.length ≤ 9223372036854775807 := by
  have h1 := h.1
  have h2 := h.2.1
  unfold maxLen at h2
  omega
theorem Gr.blk {α : Type} {E : El α} {S : Nat → Prop} {w : World} {a : Option Addr} {cap : Nat} {l : List α} (h : Gr E S w a cap l) (hl : l ≠ []) : ∃ b off, a = some ⟨b, off, none⟩ ∧ b < w.heap.size := by
  obtain ⟨b, off, vs, e, hb, _⟩ := h.2.2.2 0 (List.length_pos_iff.2 hl)
  exact ⟨b, off, e, hb⟩
theorem Gr.stay {α : Type} {E : El α} {S S' : Nat → Prop} {w w' : World} {a : Option Addr} {cap : Nat} {l : List α} (h : Gr E S w a cap l) (hs : w.heap.size ≤ w'.heap.size)
    (hk : ∀ k, S k → k < w.heap.size → S' k ∧ w'.heap[k]? = w.heap[k]?) (ha : ∀ b o, a = some ⟨b, o, none⟩ → l ≠ [] → b < w.heap.size → w'.heap[b]? = w.heap[b]?) : Gr E S' w' a cap l := by
  refine ⟨h.1, h.2.1, h.2.2.1, fun i hi => ?_⟩
  obtain ⟨b, off, vs, e, hb, h1, h2⟩ := h.2.2.2 i hi
  have hbk := ha b off e (fun e0 => by rw [e0] at hi; simp at hi) hb
  exact ⟨b, off, vs, e, Nat.lt_of_lt_of_le hb hs, E.stay h1 hs hk, fun j hj => (World.cell?_of_block (w := w) (a := ⟨b, off + i * E.sz + j, none⟩) hbk).trans (h2 j hj)⟩
theorem Gr.below {α : Type} {E : El α} {S : Nat → Prop} {w w' : World} {a : Option Addr} {cap : Nat} {l : List α} (h : Gr E S w a cap l) (hb : Below w.heap.size w w') : Gr E S w' a cap l :=
  h.stay hb.size (fun k hk hl => ⟨hk, hb.block k hl⟩) (fun b o e hl h1 => hb.block b h1)
theorem Gr.wide {α : Type} {E : El α} {S S' : Nat → Prop} {w : World} {a : Option Addr} {cap : Nat} {l : List α} (h : Gr E S w a cap l) (hk : ∀ k, S k → k < w.heap.size → S' k) : Gr E S' w a cap l :=
  h.stay (Nat.le_refl _) (fun k h1 h2 => ⟨hk k h1 h2, rfl⟩) (fun _ _ _ _ _ => rfl)
theorem Gr.at {α : Type} {E : El α} {S : Nat → Prop} {w wr : World} {a : Option Addr} {cap : Nat} {l : List α} (h : Gr E S w a cap l) (hb : Below w.heap.size w wr) (k : Nat) (hk : k < l.length) :
    ∃ b off vs, a = some ⟨b, off, none⟩ ∧ b < w.heap.size ∧ E.rep S wr vs (l.getD k E.dfl) ∧ ∀ j, j < E.sz → wr.cell? ⟨b, off + k * E.sz + j, none⟩ = vs[j]? := by
  obtain ⟨b, off, vs, e, h0, h1, h2⟩ := h.2.2.2 k hk
  exact ⟨b, off, vs, e, h0, E.stay h1 hb.size (fun k hk hl => ⟨hk, hb.block k hl⟩), fun j hj => (hb.cell (p := ⟨b, off + k * E.sz + j, none⟩) h0).trans (h2 j hj)⟩
theorem Gr.take {α : Type} {E : El α} {S : Nat → Prop} {w : World} {a : Option Addr} {cap : Nat} {l : List α} (h : Gr E S w a cap l) (n : Nat) : Gr E S w a cap (l.take n) := by
  refine ⟨Nat.le_trans (by simp; omega) h.1, h.2.1, h.2.2.1, fun i hi => ?_⟩
  have hi' : i < n ∧ i < l.length := by simp at hi; omega
  obtain ⟨b, off, vs, e, h0, h1, h2⟩ := h.2.2.2 i hi'.2
  have eg : (l.take n).getD i E.dfl = l.getD i E.dfl := by simp [List.getD, List.getElem?_take, hi'.1]
  exact ⟨b, off, vs, e, h0, by rw [eg]; exact h1, h2⟩
theorem Gr.from {α : Type} {E : El α} {S : Nat → Prop} {w : World} {b off cap : Nat} {l : List α} (h : Gr E S w (some ⟨b, off, none⟩) cap l) (n : Nat) (hn : n ≤ l.length) : Gr E S w (some ⟨b, off + n * E.sz, none⟩) (cap - n) (l.drop n) := by
  refine ⟨by have := h.1; simp; omega, Nat.le_trans (Nat.sub_le _ _) h.2.1, (fun e => by cases e), fun i hi => ?_⟩
  have hi' : n + i < l.length := by simp at hi; omega
  obtain ⟨b', off', vs, e, h0, h1, h2⟩ := h.2.2.2 (n + i) hi'
  cases e
  have eg : (l.drop n).getD i E.dfl = l.getD (n + i) E.dfl := by simp [List.getD]
  refine ⟨b, off + n * E.sz, vs, rfl, h0, by rw [eg]; exact h1, fun j hj => ?_⟩
  rw [show off + n * E.sz + i * E.sz + j = off + (n + i) * E.sz + j by rw [Nat.add_mul]; omega]
  exact h2 j hj

/-- A row, as a thing. -/
def El.row {α : Type} (E : El α) : El (List α) where
  sz := 1
  dfl := []
  rep := fun S w vs l => ∃ a cap, vs = [.slice a l.length cap] ∧ (∀ b o, a = some ⟨b, o, none⟩ → l ≠ [] → S b) ∧ Gr E S w a cap l ∧ l.length ≤ 140737488351232
  len := fun ⟨a, cap, e, _⟩ => by rw [e]; rfl
  one := fun ⟨a, cap, e, _⟩ u hu => by rw [e] at hu; rw [List.mem_singleton.1 hu]; rfl
  stay := fun ⟨a, cap, e, hS, h, hlb⟩ hs hk => by
    refine ⟨a, cap, e, fun b o e1 hl => ?_, h.stay hs hk (fun b o e1 hl hb => (hk b (hS b o e1 hl) hb).2), hlb⟩
    obtain ⟨b', o', e2, hb⟩ := h.blk hl
    rw [e1] at e2
    cases e2
    exact (hk b (hS b o e1 hl) hb).1

theorem flat_len' {sz : Nat} : ∀ {vss : List (List Value)}, (∀ i, i < vss.length → (vss.getD i []).length = sz) → vss.flatten.length = vss.length * sz := by
  intro vss
  induction vss with
  | nil => intro _; simp
  | cons vs t ih =>
    intro h
    have h0 : vs.length = sz := h 0 (by simp)
    have h1 := ih (fun i hi => h (i + 1) (by simpa using hi))
    rw [List.flatten_cons, List.length_append, h0, h1, List.length_cons, Nat.add_mul]
    omega
theorem flat_get {sz : Nat} : ∀ {vss : List (List Value)} {i j : Nat}, (∀ i, i < vss.length → (vss.getD i []).length = sz) → i < vss.length → j < sz → vss.flatten[i * sz + j]? = (vss.getD i [])[j]? := by
  intro vss
  induction vss with
  | nil => intro i j _ hi _; simp at hi
  | cons vs t ih =>
    intro i j h hi hj
    have h0 : vs.length = sz := h 0 (by simp)
    cases i with
    | zero => rw [List.flatten_cons, Nat.zero_mul, Nat.zero_add, List.getElem?_append_left (by omega)]; rfl
    | succ i =>
      have h1 := ih (fun i hi => h (i + 1) (by simpa using hi)) (i := i) (j := j) (by simpa using hi) hj
      rw [List.flatten_cons, List.getElem?_append_right (by rw [h0, Nat.add_mul]; omega), h0, show (i + 1) * sz + j - sz = i * sz + j by rw [Nat.add_mul]; omega, h1]
      rfl

/-- A row of the call's own: its elements lead to blocks of S alone, not to the row's own. -/
def Gw {α : Type} (E : El α) (t : TypeId) (base : Nat) (S : Nat → Prop) (w : World) (v : Value) (l : List α) : Prop :=
  ∃ vss : List (List Value), vss.length = l.length ∧ w.ownsRow base t E.sz v l.length vss.flatten ∧ ∀ i, i < l.length → E.rep (fun k => S k ∧ v.ownBlock ≠ some k) w (vss.getD i []) (l.getD i E.dfl)
theorem Gw.nil {α : Type} (E : El α) (t : TypeId) (base : Nat) (S : Nat → Prop) (w : World) : Gw E t base S w (.slice none 0 0) [] := ⟨[], rfl, World.ownsRow_nil w base _ _, fun i hi => by simp at hi⟩
theorem Gw.made {α : Type} {E : El α} {t : TypeId} {base : Nat} {S : Nat → Prop} {w : World} {v : Value} (h : w.ownsRow base t E.sz v 0 []) : Gw E t base S w v [] := ⟨[], rfl, h, fun i hi => by simp at hi⟩
theorem Gw.slice {α : Type} {E : El α} {t : TypeId} {base : Nat} {S : Nat → Prop} {w : World} {v : Value} {l : List α} (h : Gw E t base S w v l) : ∃ a cap, v = .slice a l.length cap ∧ Gr E S w a cap l ∧ ∀ b o, a = some ⟨b, o, none⟩ → base ≤ b ∧ b < w.heap.size := by
  obtain ⟨vss, hl, h3, h4⟩ := h
  have h5 : ∀ i, i < vss.length → (vss.getD i []).length = E.sz := fun i hi => E.len (h4 i (by omega))
  have hown := h3
  rcases h3.2 with ⟨rfl, h0⟩ | ⟨g, cap, cur, rfl, hb, hg, hc1, hc2, hc3, ht⟩
  · have : l = [] := List.length_eq_zero_iff.1 h0
    subst this
    exact ⟨none, 0, rfl, Gr.nil _ _ _ _ _ (Nat.zero_le _) (fun _ => rfl), fun b o e => by cases e⟩
  · refine ⟨_, cap, rfl, ⟨hc1, hc2, (fun e => by cases e), fun i hi => ?_⟩, fun b o e => by cases e; exact ⟨hb, (Array.getElem?_eq_some_iff.1 hg).1⟩⟩
    refine ⟨g, 0, vss.getD i [], rfl, (Array.getElem?_eq_some_iff.1 hg).1, E.stay (h4 i hi) (Nat.le_refl _) (fun k hk _ => ⟨hk.1, rfl⟩), fun j hj => ?_⟩
    have hadd : ∀ j, (⟨g, 0, none⟩ : Addr).add j = ⟨g, 0 + j, none⟩ := by intro j; unfold Addr.add; split <;> simp_all
    have e := flat_get h5 (i := i) (j := j) (by omega) hj
    have hjl : j < (vss.getD i []).length := by rw [h5 i (by omega)]; exact hj
    rw [List.getElem?_eq_getElem hjl] at e ⊢
    have d := hown.cells (g := g) rfl (i * E.sz + j) _ e
    rw [hadd] at d
    rw [← d]
    simp [Nat.add_assoc]
theorem Gw.lo {α : Type} {E : El α} {t : TypeId} {base : Nat} {S : Nat → Prop} {w : World} {v : Value} {l : List α} (h : Gw E t base S w v l) {g : Nat} (hg : v.ownBlock = some g) : base ≤ g ∧ g < w.heap.size := by
  obtain ⟨vss, hl, h3, h4⟩ := h
  exact World.ownsRow.lt h3 g hg
theorem Gw.stay {α : Type} {E : El α} {t : TypeId} {base : Nat} {S S' : Nat → Prop} {w w' : World} {v : Value} {l : List α} (h : Gw E t base S w v l) (hs : w.heap.size ≤ w'.heap.size)
    (hk : ∀ k, S k → v.ownBlock ≠ some k → k < w.heap.size → S' k ∧ w'.heap[k]? = w.heap[k]?) (ho : ∀ k, v.ownBlock = some k → w'.heap[k]? = w.heap[k]?) : Gw E t base S' w' v l := by
  obtain ⟨vss, hl, h3, h4⟩ := h
  refine ⟨vss, hl, ⟨h3.1, ?_⟩, fun i hi => E.stay (h4 i hi) hs (fun k h1 h2 => ⟨⟨(hk k h1.1 h1.2 h2).1, h1.2⟩, (hk k h1.1 h1.2 h2).2⟩)⟩
  rcases h3.2 with h0 | ⟨g, cap', cur, k1, k2, k3, k4⟩
  · exact .inl h0
  · exact .inr ⟨g, cap', cur, k1, k2, (ho g (by rw [k1]; rfl)).trans k3, k4⟩
theorem Gw.below {α : Type} {E : El α} {t : TypeId} {base : Nat} {S : Nat → Prop} {w w' : World} {v : Value} {l : List α} (h : Gw E t base S w v l) (hb : Below w.heap.size w w') : Gw E t base S w' v l :=
  h.stay hb.size (fun k h1 _ h2 => ⟨h1, hb.block k h2⟩) (fun k hk => hb.block k (h.lo hk).2)
/-- The row's block knows its element's type. -/
theorem Gw.ty {α : Type} {E : El α} {t : TypeId} {base : Nat} {S : Nat → Prop} {w : World} {v : Value} {l : List α} (h : Gw E t base S w v l) {g : Nat} (hg : v.ownBlock = some g) : ∃ cur, w.heap[g]? = some (.cells cur t (0, 0)) := by
  obtain ⟨vss, hl, h3, h4⟩ := h
  rcases h3.2 with ⟨e, _⟩ | ⟨g', cap', cur, k1, k2, k3, k4⟩
  · rw [e] at hg; cases hg
  · rw [k1] at hg
    have e : some g' = some g := hg
    injection e with e
    rw [← e]
    exact ⟨cur, k3⟩
/-- Two rows of unlike element types are two blocks. -/
theorem Gw.ne {α β : Type} {E : El α} {F : El β} {t u : TypeId} {base base2 : Nat} {S S2 : Nat → Prop} {w : World} {v x : Value} {l : List α} {m : List β} (h : Gw E t base S w v l) (h2 : Gw F u base2 S2 w x m) (ht : t ≠ u) {g : Nat} (hg : v.ownBlock = some g) : x.ownBlock ≠ some g := by
  intro e
  obtain ⟨c1, k1⟩ := h.ty hg
  obtain ⟨c2, k2⟩ := h2.ty e
  rw [k1] at k2
  simp at k2
  exact ht k2.2
/-- What the walk lays of a row that is grown: the other rows and what is read beside it stay. -/
theorem Gw.beside {α β : Type} {E : El α} {F : El β} {t u : TypeId} {base base2 : Nat} {S S2 : Nat → Prop} {w w' : World} {v x : Value} {l : List α} {m : List β} (h : Gw E t base S w v l) (h2 : Gw F u base2 S2 w x m) (ht : t ≠ u) (hS : ∀ k, S k → x.ownBlock ≠ some k) (hg : w.grownBy w' x.ownBlock) : Gw E t base S w' v l :=
  h.stay hg.size (fun k h1 _ h3 => ⟨h1, hg.block k h3 (fun e => hS k h1 e.symm)⟩) (fun k hk => hg.block k (h.lo hk).2 (fun e => h.ne h2 ht hk e.symm))

/-- 'append(v, x...)'. -/
theorem wpList_append_el {α : Type} {E : El α} {w : World} {ops : Array Oper} {rest : List Oper} {o : Oper} {a : Act} {Q : Exit → Act → World → Prop} (t e : TypeId) {z : Value} {by' : Nat}
    (ht : Try.prog.underlying t = some (.slice e)) (hinfo : (Try.prog.info? e).map (fun i => (i.zero, i.size, i.bytes)) = some (some z, E.sz, by')) (hzs : z.cells.size = E.sz) (hsz : 0 < E.sz) (hby : by' ≤ 1000)
    (hgd : o.guard = none) (s x : Operand) (ho : o.op = .call { callee := .builtin .append, args := #[s, x], argTypes := #[t, t] })
    (base : Nat) (S : Nat → Prop) (v : Value) (l : List α) (hs : a.eval s = v) (hown : Gw E e base S w v l) (pa : Option Addr) (pc n : Nat) (m : List α) (hn : n = m.length) (hx : a.eval x = .slice pa n pc)
    (hp : Gr E (fun k => S k ∧ v.ownBlock ≠ some k) w pa pc m) (hlen : l.length + m.length ≤ 1000000) (hbase : base ≤ w.heap.size)
    (h : ∀ v' w', Gw E e base S w' v' (l ++ m) → w.grownBy w' v.ownBlock → (v'.ownBlock = v.ownBlock ∨ v'.ownBlock = some w.heap.size) → wpList Try.prog ops Q rest (a.put o.dst v') w') : wpList Try.prog ops Q (o :: rest) a w := by
  subst hn
  obtain ⟨i0, hi, hz0, hz1, hz2⟩ := info_parts hinfo
  obtain ⟨vss, hl, h3, h4⟩ := hown
  have grown : ∀ v' w' (uss : List (List Value)), uss.length = m.length → (∀ i, i < m.length → E.rep (fun k => S k ∧ v.ownBlock ≠ some k) w (uss.getD i []) (m.getD i E.dfl)) → w'.ownsRow base e E.sz v' (l.length + m.length) (vss.flatten ++ uss.flatten) → w.grownBy w' v.ownBlock → (v'.ownBlock = v.ownBlock ∨ v'.ownBlock = some w.heap.size) → Gw E e base S w' v' (l ++ m) := by
    intro v' w' uss hul hu k1 k2 k4
    have hst : ∀ vs y, E.rep (fun k => S k ∧ v.ownBlock ≠ some k) w vs y → E.rep (fun k => S k ∧ v'.ownBlock ≠ some k) w' vs y := fun vs y hy => E.stay hy k2.size (fun k hk hlt => ⟨⟨hk.1, by
      rcases k4 with k4 | k4
      · rw [k4]; exact hk.2
      · rw [k4]; intro e'; cases e'; exact absurd hlt (Nat.lt_irrefl _)⟩, k2.block k hlt (fun e' => hk.2 e'.symm)⟩)
    refine ⟨vss ++ uss, by rw [List.length_append, List.length_append, hl, hul], by rw [List.length_append, List.flatten_append]; exact k1, fun i hi => ?_⟩
    by_cases him : i < l.length
    · have e1 : (l ++ m).getD i E.dfl = l.getD i E.dfl := by simp [List.getD, List.getElem?_append_left him]
      have e2 : (vss ++ uss).getD i [] = vss.getD i [] := by simp [List.getD, List.getElem?_append_left (show i < vss.length by omega)]
      rw [e1, e2]
      exact hst _ _ (h4 i him)
    · have him' : i - l.length < m.length := by simp at hi; omega
      have e1 : (l ++ m).getD i E.dfl = m.getD (i - l.length) E.dfl := by simp [List.getD, List.getElem?_append_right (show l.length ≤ i by omega)]
      have e2 : (vss ++ uss).getD i [] = uss.getD (i - l.length) [] := by simp [List.getD, List.getElem?_append_right (show vss.length ≤ i by omega), hl]
      rw [e1, e2]
      exact hst _ _ (hu _ him')
  cases pa with
  | none =>
    obtain rfl := hp.2.2.1 rfl
    have hm : m = [] := List.length_eq_zero_iff.1 (Nat.le_zero.1 hp.1)
    subst hm
    refine wpList_append_own_none hgd s x t ho base e i0 E.sz ht hi v l.length vss.flatten hs h3 hx (h v w (by rw [List.append_nil]; exact ⟨vss, hl, h3, h4⟩) (World.grownBy.refl w _) (.inl rfl))
  | some ad =>
    obtain ⟨uss, hul, hu⟩ : ∃ uss : List (List Value), uss.length = m.length ∧ ∀ i, i < m.length → E.rep (fun k => S k ∧ v.ownBlock ≠ some k) w (uss.getD i []) (m.getD i E.dfl) ∧ ∀ j, j < E.sz → w.cell? (ad.add (i * E.sz + j)) = (uss.getD i [])[j]? := by
      have key : ∀ k, k ≤ m.length → ∃ uss : List (List Value), uss.length = k ∧ ∀ i, i < k → E.rep (fun k => S k ∧ v.ownBlock ≠ some k) w (uss.getD i []) (m.getD i E.dfl) ∧ ∀ j, j < E.sz → w.cell? (ad.add (i * E.sz + j)) = (uss.getD i [])[j]? := by
        intro k
        induction k with
        | zero => exact fun _ => ⟨[], rfl, fun i hi => by omega⟩
        | succ k ih =>
          intro hk
          obtain ⟨uss, h1, h2⟩ := ih (by omega)
          obtain ⟨b, off, vs, e1, hb, hr, hc⟩ := hp.2.2.2 k (by omega)
          cases e1
          refine ⟨uss ++ [vs], by simp [h1], fun i hi => ?_⟩
          by_cases hik : i < k
          · have e2 : (uss ++ [vs]).getD i [] = uss.getD i [] := by simp [List.getD, List.getElem?_append_left (show i < uss.length by omega)]
            rw [e2]
            exact h2 i hik
          · obtain rfl : i = k := by omega
            have e2 : (uss ++ [vs]).getD i [] = vs := by simp [List.getD, ← h1]
            rw [e2]
            refine ⟨hr, fun j hj => ?_⟩
            have hadd : (⟨b, off, none⟩ : Addr).add (i * E.sz + j) = ⟨b, off + (i * E.sz + j), none⟩ := by unfold Addr.add; split <;> simp_all
            rw [hadd, ← Nat.add_assoc]
            exact hc j hj
      exact key m.length (Nat.le_refl _)
    have hul5 : ∀ i, i < uss.length → (uss.getD i []).length = E.sz := fun i hi => E.len (hu i (by omega)).1
    refine wpList_append_own_at w hgd s x t ho base e i0 z E.sz by' ht hi hz0 hz1 hz2 hzs hsz v l.length vss.flatten hs h3 ad m.length pc uss.flatten hx (by rw [flat_len' hul5, hul]) ?_ ?_ (by unfold maxLen; omega) (by
        have := Nat.mul_le_mul hlen hby
        omega) hbase (fun v' w' k1 k2 _ k4 => h v' w' (grown v' w' uss hul (fun i hi => (hu i hi).1) k1 k2 k4) k2 k4)
    · intro j u hj
      have hjl : j < m.length * E.sz := by
        rcases Nat.lt_or_ge j (m.length * E.sz) with h1 | h1
        · exact h1
        · rw [List.getElem?_eq_none (by rw [flat_len' hul5, hul]; exact h1)] at hj; cases hj
      have hjd : j / E.sz < m.length := (Nat.div_lt_iff_lt_mul hsz).2 hjl
      have e1 : j / E.sz * E.sz + j % E.sz = j := by rw [Nat.mul_comm]; exact Nat.div_add_mod j E.sz
      have h1 := (hu (j / E.sz) hjd).2 (j % E.sz) (Nat.mod_lt _ hsz)
      have h2 := flat_get hul5 (i := j / E.sz) (j := j % E.sz) (by omega) (Nat.mod_lt _ hsz)
      rw [e1] at h1 h2
      rw [h1, ← h2, hj]
    · intro u hu1
      obtain ⟨vs, hvs, hu2⟩ := List.mem_flatten.1 hu1
      obtain ⟨i, hi, e1⟩ := List.getElem_of_mem hvs
      have := E.one (hu i (by omega)).1 u
      rw [List.getD_eq_getElem?_getD, List.getElem?_eq_getElem hi, Option.getD_some, e1] at this
      exact this hu2
/-- 'append(v, x)': x is laid in a block of its own first. -/
theorem Gr.one {α : Type} {E : El α} {S : Nat → Prop} {w : World} {g : Nat} {x : α} {vs : List Value} (hr : E.rep S w vs x) (hg : g < w.heap.size) (hc : ∀ j, j < E.sz → w.cell? ⟨g, j, none⟩ = vs[j]?) : Gr E S w (some ⟨g, 0, none⟩) 1 [x] := by
  refine ⟨Nat.le_refl _, by unfold maxLen; omega, (fun e => by cases e), fun i hi => ?_⟩
  obtain rfl : i = 0 := by simpa using hi
  exact ⟨g, 0, vs, rfl, hg, hr, fun j hj => by simpa using hc j hj⟩
theorem Gr.one_new {α : Type} {E : El α} {S : Nat → Prop} {w : World} {x : α} (vs : List Value) (t : TypeId) (hr : E.rep S w vs x) : Gr E S (w.alloc (.cells vs.toArray t)) (some ⟨w.heap.size, 0, none⟩) 1 [x] := by
  refine Gr.one (E.stay hr (bl1 _).size (fun k hk hl => ⟨hk, (bl1 _).block k hl⟩)) (by simp) (fun j hj => ?_)
  have := cell_of_row _ w.heap.size j _ _ (0, 0) (heap_alloc_new w (.cells vs.toArray t))
  rw [this]
  simp

end Go.Proofs.Ytgambbmonbhpnaa

namespace Go.Proofs.Ytgambbmonbhpnaa
open Go.RowKit Go.Maps
set_option linter.unusedSimpArgs false
set_option linter.unusedVariables false

/-- A block that holds these cells, and may be written. -/
def Bk (t : TypeId) (w : World) (g : Nat) (cs : List Value) : Prop := w.heap[g]? = some (.cells cs.toArray t (0, 0))
theorem Bk.lt {t : TypeId} {w : World} {g : Nat} {cs : List Value} (h : Bk t w g cs) : g < w.heap.size := (Array.getElem?_eq_some_iff.1 h).1
theorem Bk.below {t : TypeId} {w w' : World} {g : Nat} {cs : List Value} (h : Bk t w g cs) (hb : Below w.heap.size w w') : Bk t w' g cs := (hb.block g h.lt).trans h
theorem Bk.kept {t : TypeId} {G : Nat → Prop} {w w' : World} {g : Nat} {cs : List Value} (h : Bk t w g cs) (hk : Keep G w w') (hg : G g) : Bk t w' g cs := (hk.block g hg).trans h
theorem Bk.new (t : TypeId) (w : World) (cs : List Value) : Bk t (w.alloc (.cells cs.toArray t)) w.heap.size cs := heap_alloc_new w _
theorem Bk.new1 (t : TypeId) (w : World) (o : Obj) (cs : List Value) : Bk t ((w.alloc o).alloc (.cells cs.toArray t)) (w.heap.size + 1) cs := by
  have h := Bk.new t (w.alloc o) cs
  simpa using h
theorem Bk.cell {t : TypeId} {w : World} {g : Nat} {cs : List Value} (h : Bk t w g cs) (j : Nat) (hj : j < cs.length) : w.cell? ⟨g, j, none⟩ = cs[j]? := by
  rw [cell_of_row w g j _ _ (0, 0) h]
  simp
theorem Bk.fz {t : TypeId} {w : World} {g : Nat} {cs : List Value} (h : Bk t w g cs) (j : Nat) : w.frozen? ⟨g, j, none⟩ = false := frozen_of_row w g j _ _ h
theorem Bk.two {t : TypeId} {w : World} {g : Nat} {x y : Value} (h : Bk t w g [x, y]) : w.cell? ⟨g, 0, none⟩ = some x ∧ w.cell? ⟨g, 1, none⟩ = some y ∧ w.frozen? ⟨g, 0, none⟩ = false ∧ w.frozen? ⟨g, 1, none⟩ = false :=
  ⟨h.cell 0 (by simp), h.cell 1 (by simp), h.fz 0, h.fz 1⟩
theorem Bk.three {t : TypeId} {w : World} {g : Nat} {x y z : Value} (h : Bk t w g [x, y, z]) : w.cell? ⟨g, 0, none⟩ = some x ∧ w.cell? ⟨g, 1, none⟩ = some y ∧ w.cell? ⟨g, 2, none⟩ = some z ∧ w.frozen? ⟨g, 0, none⟩ = false ∧ w.frozen? ⟨g, 1, none⟩ = false ∧ w.frozen? ⟨g, 2, none⟩ = false :=
  ⟨h.cell 0 (by simp), h.cell 1 (by simp), h.cell 2 (by simp), h.fz 0, h.fz 1, h.fz 2⟩
theorem Bk.four {t : TypeId} {w : World} {g : Nat} {x y z u : Value} (h : Bk t w g [x, y, z, u]) : w.cell? ⟨g, 0, none⟩ = some x ∧ w.cell? ⟨g, 1, none⟩ = some y ∧ w.cell? ⟨g, 2, none⟩ = some z ∧ w.cell? ⟨g, 3, none⟩ = some u ∧ w.frozen? ⟨g, 0, none⟩ = false ∧ w.frozen? ⟨g, 1, none⟩ = false ∧ w.frozen? ⟨g, 2, none⟩ = false ∧ w.frozen? ⟨g, 3, none⟩ = false :=
  ⟨h.cell 0 (by simp), h.cell 1 (by simp), h.cell 2 (by simp), h.cell 3 (by simp), h.fz 0, h.fz 1, h.fz 2, h.fz 3⟩
theorem Bk.set {t : TypeId} {w : World} {g : Nat} {cs : List Value} (h : Bk t w g cs) (j : Nat) (z : Value) : Bk t (w.setCell ⟨g, j, none⟩ z) g (cs.set j z) := by
  have := heap_setCell_same w g j _ _ z h
  unfold Bk
  rw [this]
  simp
theorem Bk.other {t : TypeId} {w : World} {g b : Nat} {cs : List Value} (h : Bk t w g cs) (j : Nat) (z : Value) (hb : g ≠ b) : Bk t (w.setCell ⟨b, j, none⟩ z) g cs := (Below.heap_setCell _ _ _ _ (fun e => hb e)).trans h
theorem Bk.grown {t : TypeId} {w w' : World} {g : Nat} {cs : List Value} {v : Option Nat} (h : Bk t w g cs) (hg : w.grownBy w' v) (hv : v ≠ some g) : Bk t w' g cs := (hg.block g h.lt (fun e => hv e.symm)).trans h

end Go.Proofs.Ytgambbmonbhpnaa

namespace Go.Proofs.Ytgambbmonbhpnaa
open Go.RowKit Go.Maps
set_option linter.unusedSimpArgs false
set_option linter.unusedVariables false

def RnE : El Rn := (El.int.cat (El.int.cat El.int)).via (fun x => (x.fr, x.to, x.gl)) Rn.none
def rnC (x : Rn) : List Value := [.int .i64 x.fr, .int .i64 x.to, .int .i64 x.gl]
def RnW (x : Rn) : Prop := I64 x.fr ∧ I64 x.to ∧ I64 x.gl
theorem RnE_rep {S : Nat → Prop} {w : World} {vs : List Value} {x : Rn} : RnE.rep S w vs x ↔ vs = rnC x ∧ RnW x := by
  constructor
  · rintro ⟨us, ts, rfl, ⟨rfl, h1⟩, us2, ts2, rfl, ⟨rfl, h2⟩, ⟨rfl, h3⟩⟩
    exact ⟨rfl, h1, h2, h3⟩
  · rintro ⟨rfl, h1, h2, h3⟩
    exact ⟨[_], _, rfl, ⟨rfl, h1⟩, [_], [_], rfl, ⟨rfl, h2⟩, ⟨rfl, h3⟩⟩
theorem Gr.rn {S : Nat → Prop} {w wr : World} {a : Option Addr} {cap : Nat} {l : List Rn} (h : Gr RnE S w a cap l) (hb : Below w.heap.size w wr) (k : Nat) (hk : k < l.length) :
    ∃ b off, a = some ⟨b, off, none⟩ ∧ b < w.heap.size ∧ RnW (l.getD k Rn.none) ∧ wr.cell? ⟨b, off + k * 3, none⟩ = some (.int .i64 (l.getD k Rn.none).fr) ∧ wr.cell? ⟨b, off + k * 3 + 1, none⟩ = some (.int .i64 (l.getD k Rn.none).to) ∧ wr.cell? ⟨b, off + k * 3 + 2, none⟩ = some (.int .i64 (l.getD k Rn.none).gl) := by
  obtain ⟨b, off, vs, e, hl, hr, hc⟩ := h.at hb k hk
  obtain ⟨rfl, hw⟩ := RnE_rep.1 hr
  exact ⟨b, off, e, hl, hw, hc 0 (by decide), hc 1 (by decide), hc 2 (by decide)⟩

/-- An iterator over a text stands at a place. -/
def It (w : World) (g : Nat) (s : ByteArray) (pos : Nat) : Prop := w.heap[g]? = some (.stringIter s pos)
/-- The world behind a step of it. -/
def stepIt (w : World) (g : Nat) (s : ByteArray) (pos : Nat) : World := { w with heap := w.heap.setIfInBounds g (.stringIter s pos) }
theorem wrapi64k {z : Int} (h1 : -9223372036854775808 ≤ z) (h2 : z ≤ 9223372036854775807) : IntKind.i64.wrap z = z := by
  simp only [IntKind.wrap, IntKind.bits, IntKind.signed]
  simp
  omega
theorem It.lt {w : World} {g : Nat} {s : ByteArray} {pos : Nat} (h : It w g s pos) : g < w.heap.size := (Array.getElem?_eq_some_iff.1 h).1
theorem It.below {w w' : World} {g : Nat} {s : ByteArray} {pos : Nat} (h : It w g s pos) (hb : Below w.heap.size w w') : It w' g s pos := (hb.block g h.lt).trans h
theorem It.kept {w w' : World} {g : Nat} {s : ByteArray} {pos : Nat} (h : It w g s pos) (hk : w'.heap[g]? = w.heap[g]?) : It w' g s pos := hk.trans h
theorem It.new (w : World) (s : ByteArray) : It (w.alloc (.stringIter s 0)) w.heap.size s 0 := by
  show (w.heap.push (Obj.stringIter s 0))[w.heap.size]? = _
  simp
theorem It.step {w : World} {g : Nat} {s : ByteArray} {pos : Nat} (h : It w g s pos) (q : Nat) : It (stepIt w g s q) g s q := by
  show (w.heap.setIfInBounds g (.stringIter s q))[g]? = _
  simp [h.lt]
theorem stepIt_size (w : World) (g : Nat) (s : ByteArray) (q : Nat) : (stepIt w g s q).heap.size = w.heap.size := by simp [stepIt]
theorem stepIt_other (w : World) (g : Nat) (s : ByteArray) (q k : Nat) (h : k ≠ g) : (stepIt w g s q).heap[k]? = w.heap[k]? := by
  show (w.heap.setIfInBounds g (.stringIter s q))[k]? = _
  rw [Array.getElem?_setIfInBounds_ne (fun e => h e.symm)]
theorem stepIt_below {w0 w : World} {B g : Nat} (s : ByteArray) (q : Nat) (h : Below B w0 w) (hg : B ≤ g) : Below B w0 (stepIt w g s q) :=
  ⟨h.os, h.tape, h.output, by rw [stepIt_size]; exact h.size, fun k hk => (stepIt_other w g s q k (by omega)).trans (h.block k hk)⟩
theorem run_next_at {P : Program} {w : World} {g : Nat} {s : ByteArray} {pos : Nat} (ty : TypeId) (h : It w g s pos) (hp : pos < s.size) :
    (Instr.next (.pointer (some ⟨g, 0, none⟩)) true ty).run P w = .ok (.tuple #[.bool true, .int .i64 pos, .int .i32 ((dcN ((sb s).drop pos)).1 : Int)]) (stepIt w g s (pos + (dcN ((sb s).drop pos)).2)) := by
  rw [← dc_eq]
  have h' : w.heap[g]? = some (.stringIter s pos) := h
  simp only [Instr.next, getObj, setObj, Sem.run_bind, Sem.run, h', Result.andThen, hp, if_true]
  simp [goInt, stepIt]
theorem run_next_stop {P : Program} {w : World} {g : Nat} {s : ByteArray} {pos : Nat} (ty : TypeId) (h : It w g s pos) (hp : ¬ pos < s.size) :
    (Instr.next (.pointer (some ⟨g, 0, none⟩)) true ty).run P w = .ok (.tuple #[.bool false]) w := by
  have h' : w.heap[g]? = some (.stringIter s pos) := h
  simp [Instr.next, getObj, Sem.run, h', hp]

end Go.Proofs.Ytgambbmonbhpnaa

namespace Go.Proofs.Ytgambbmonbhpnaa
open Go.RowKit Go.Maps
set_option linter.unusedSimpArgs false
set_option linter.unusedVariables false

def gfB (x : Rn) (n : Int) : Bool := decide (0 ≤ x.gl) && (decide (x.gl < n) && decide (x.to - x.fr < n - x.gl))
/-- The last To ahead of a place. -/
def laR (l : List Rn) : Nat → Int
  | 0 => -1
  | k + 1 => (l.getD k Rn.none).to
theorem laR_b {l : List Rn} {n : Int} {k : Nat} (h : ∀ j, j < k → foCx l n j = true) : -1 ≤ laR l k ∧ laR l k ≤ 1114111 := by
  cases k with
  | zero => exact ⟨(by decide : (-1 : Int) ≤ -1), (by decide : (-1 : Int) ≤ 1114111)⟩
  | succ k =>
    have h1 := rnB_iff.1 (foCx_iff.1 (h k (by omega))).1
    show -1 ≤ (l.getD k Rn.none).to ∧ (l.getD k Rn.none).to ≤ 1114111
    omega
theorem foCx_eq {l : List Rn} {n : Int} {k : Nat} (h : -1 ≤ laR l k) : foCx l n k = (!decide ((l.getD k Rn.none).fr ≤ laR l k) && (!decide ((l.getD k Rn.none).to < (l.getD k Rn.none).fr) && (!decide (1114111 < (l.getD k Rn.none).to) && gfB (l.getD k Rn.none) n))) := by
  rw [Bool.eq_iff_iff, foCx_iff, rnB_iff]
  unfold gfB
  cases k with
  | zero =>
    have e : laR l 0 = -1 := rfl
    rw [e]
    simp
    omega
  | succ k =>
    have e : laR l (k + 1) = (l.getD k Rn.none).to := rfl
    rw [e] at h ⊢
    rw [show k + 1 - 1 = k by omega]
    simp only [Bool.and_eq_true, Bool.not_eq_true', decide_eq_false_iff_not, decide_eq_true_eq]
    omega

set_option maxHeartbeats 2000000 in
set_option maxRecDepth 100000 in
theorem gfit_any (x : Rn) (n : Int) (w : World) (hx : RnW x) (hn : I64 n) (h1 : 0 ≤ x.fr) (h2 : x.fr ≤ x.to) (h3 : x.to ≤ 1114111) :
    Calls Try.prog 34 #[.agg #[.int .i64 x.fr, .int .i64 x.to, .int .i64 x.gl], .int .i64 n] w fun e w' => e = .returned (.bool (gfB x n)) ∧ Below w.heap.size w w' := by
  obtain ⟨m1, m2, m3⟩ := hx
  obtain ⟨m3a, m3b⟩ := m3
  obtain ⟨na, nb⟩ := hn
  have hB := bl1 (w := w) (.cells #[.int .i64 x.fr, .int .i64 x.to, .int .i64 x.gl] 43)
  have HG : Hid (gfB x n = (decide (0 ≤ x.gl) && (decide (x.gl < n) && decide (x.to - x.fr < n - x.gl)))) := rfl
  obtain ⟨x1, x2, x3⟩ := x
  dsimp only at *
  by_cases g1 : 0 ≤ x3
  rotate_left
  · have k1 : decide (0 ≤ x3) = false := decide_eq_false g1
    go_enter Try.func34, Try.ntmps34
    go_wp2
    go_ret
    exact ⟨rt_bool (by rw [HG.out, k1]; rfl), hB⟩
  have k1 : decide (0 ≤ x3) = true := decide_eq_true g1
  by_cases g2 : x3 < n
  rotate_left
  · have k2 : decide (x3 < n) = false := decide_eq_false g2
    go_enter Try.func34, Try.ntmps34
    go_wp2
    go_ret
    exact ⟨rt_bool (by rw [HG.out, k1, k2]; rfl), hB⟩
  have k2 : decide (x3 < n) = true := decide_eq_true g2
  go_enter Try.func34, Try.ntmps34
  go_wp2
  go_ret
  exact ⟨rt_bool (by rw [HG.out, k1, k2]; rfl), hB⟩

set_option maxHeartbeats 4000000 in
set_option maxRecDepth 100000 in
theorem cformC_any (S : Nat → Prop) (a : Option Addr) (ca : Nat) (l : List Rn) (n : Int) (w : World) (hl : Gr RnE S w a ca l) (hn : I64 n) :
    Calls Try.prog 21 #[.slice a l.length ca, .int .i64 n] w fun e w' => e = .returned (.bool (foC l n)) ∧ Below w.heap.size w w' := by
  have kl := hl.lenB
  by_cases hn1 : 40 < l.length
  · have HF : Hid (foC l n = false) := foC_no1 hn1
    have g2 : (40 : Int) < (l.length : Int) := by omega
    go_enter Try.func21, Try.ntmps21
    go_wp2
    go_ret
    exact ⟨rt_bool HF.out.symm, Below.refl _ _⟩
  have g2 : ¬ (40 : Int) < (l.length : Int) := by omega
  have HL : Hid (Gr RnE S w a ca l) := hl
  have HN : Hid (I64 n) := hn
  clear hl hn
  go_enter Try.func21, Try.ntmps21
  go_wp2
  go_loopw [5, 13] (fun v i wr => ∃ (k : Nat) (z : Int), k ≤ l.length ∧ i = .int .i64 k ∧ v = .int .i64 z ∧ Hid (z = laR l k) ∧ Hid (∀ j, j < k → foCx l n j = true) ∧ Below w.heap.size w wr) (fun _ i _ => l.length - (intOf i).toNat)
  case atStart => exact ⟨0, -1, Nat.zero_le _, rfl, rfl, (rfl : (-1 : Int) = laR l 0), (fun j hj => by omega), Below.refl _ _⟩
  case round =>
    obtain ⟨k, z, hk, rfl, rfl, HZ, HOK, hB⟩ := hrel
    by_cases hkn : k < l.length
    · obtain ⟨b1, off, ea, hb1, hM, c0, c1, c2⟩ := HL.out.rn hB k hkn
      subst ea
      have HBad : Hid (foCx l n k = false → foC l n = false) := foC_no2 hkn
      have hzb := laR_b HOK.out
      have HX : Hid (_) := foCx_eq (n := n) hzb.1
      have HNX : Hid (laR l (k + 1) = (l.getD k Rn.none).to) := rfl
      rw [← HZ.out] at hzb HX
      obtain ⟨x, hx⟩ : ∃ x, l.getD k Rn.none = x := ⟨_, rfl⟩
      rw [hx] at hM c0 c1 c2 HX HNX
      have HM : Hid (RnW x) := hM
      obtain ⟨⟨m1, m2⟩, ⟨m3, m4⟩, ⟨m5, m6⟩⟩ := hM
      have i1 : (0 : Int) ≤ (k : Int) := by omega
      have i2 : (k : Int) < (l.length : Int) := by omega
      obtain ⟨U, hU, XG, hbU⟩ : ∃ U, U = wr.alloc (.cells #[.int .i64 x.fr, .int .i64 x.to, .int .i64 x.gl] 43) ∧ Bk 43 U wr.heap.size [.int .i64 x.fr, .int .i64 x.to, .int .i64 x.gl] ∧ Below wr.heap.size wr U := ⟨_, rfl, Bk.new _ _ _, bl1 _⟩
      replace hB := hB.trans (hbU.mono hB.size)
      obtain ⟨q0, q1, q2, -⟩ := XG.three
      go_upto_region 7 with fail
      rw [← hU]
      clear hU c0 c1 c2 hx hbU
      by_cases f1 : x.fr ≤ z
      · have d1 : decide (x.fr ≤ z) = true := decide_eq_true f1
        have HF : Hid (foC l n = false) := HBad.out (by rw [HX.out, d1]; rfl)
        clear HX HBad HOK HZ HNX
        go_wp2
        go_ret
        exact ⟨rt_bool HF.out.symm, hB⟩
      have d1 : decide (x.fr ≤ z) = false := decide_eq_false f1
      by_cases f2 : x.to < x.fr
      · have d2 : decide (x.to < x.fr) = true := decide_eq_true f2
        have HF : Hid (foC l n = false) := HBad.out (by rw [HX.out, d1, d2]; rfl)
        clear HX HBad HOK HZ HNX
        go_wp2
        go_ret
        exact ⟨rt_bool HF.out.symm, hB⟩
      have d2 : decide (x.to < x.fr) = false := decide_eq_false f2
      by_cases f3 : 1114111 < x.to
      · have d3 : decide (1114111 < x.to) = true := decide_eq_true f3
        have HF : Hid (foC l n = false) := HBad.out (by rw [HX.out, d1, d2, d3]; rfl)
        clear HX HBad HOK HZ HNX
        go_wp2
        go_ret
        exact ⟨rt_bool HF.out.symm, hB⟩
      have d3 : decide (1114111 < x.to) = false := decide_eq_false f3
      have hgf := gfit_any x n U HM.out HN.out (by omega) (by omega) (by omega)
      replace HX : Hid (foCx l n k = gfB x n) := by show _ = _; rw [HX.out, d1, d2, d3]; rfl
      cases hf1 : gfB x n with
      | false =>
        rw [hf1] at hgf
        have HF : Hid (foC l n = false) := HBad.out (by rw [HX.out, hf1])
        clear hf1 HX HBad HOK HZ HNX
        go_wp2_with fail
        refine hgf.mono ?_
        rintro e u2 ⟨rfl, hb⟩
        have hfin := hB.trans (hb.mono hB.size)
        clear hgf hb hB
        go_wp2
        go_ret
        exact ⟨rt_bool HF.out.symm, hfin⟩
      | true =>
      rw [hf1] at hgf
      have HOK2 : Hid (∀ j, j < k + 1 → foCx l n j = true) := fun j hj => by
        rcases Nat.lt_or_ge j k with h1 | h1
        · exact HOK.out j h1
        · rw [show j = k by omega, HX.out, hf1]
      clear hf1 HX HBad HOK HZ
      go_wp2_with fail
      refine hgf.mono ?_
      rintro e u2 ⟨rfl, hb⟩
      replace XG := XG.below hb
      replace hB := hB.trans (hb.mono hB.size)
      clear hgf hb q0 q1 q2
      obtain ⟨q0, q1, q2, -⟩ := XG.three
      go_wp2
      go_roundw
      case rel => exact ⟨k + 1, x.to, by omega, by go_num, rfl, HNX.out.symm, HOK2, hB⟩
      case measure => simp [intOf]; omega
    · have HF : Hid (foC l n = true) := foC_iff.2 ⟨by omega, fun j hj => HOK.out j (by omega)⟩
      have g4 : ¬ (k : Int) < (l.length : Int) := by omega
      clear HOK HZ
      go_wp2
      go_ret
      exact ⟨rt_bool HF.out.symm, hB⟩

/-- No number runs over in reckoning the glyph of c. -/
def NoR (l : List Rn) (c : Int) : Prop := ∀ k, k < l.length → inR (l.getD k Rn.none) c = true → I64 (c - (l.getD k Rn.none).fr) ∧ I64 ((l.getD k Rn.none).gl + (c - (l.getD k Rn.none).fr))
set_option maxHeartbeats 2000000 in
set_option maxRecDepth 100000 in
theorem cglyph_any (S : Nat → Prop) (a : Option Addr) (ca : Nat) (l : List Rn) (c : Int) (w : World) (hl : Gr RnE S w a ca l) (hc : I64 c) (hno : NoR l c) :
    Calls Try.prog 10 #[.slice a l.length ca, .int .i64 c] w fun e w' => e = .returned (.int .i64 (glR c l)) ∧ Below w.heap.size w w' := by
  have kl := hl.lenB
  obtain ⟨ca1, ca2⟩ := hc
  have HL : Hid (Gr RnE S w a ca l) := hl
  have HW : Hid (NoR l c) := hno
  clear hl hno
  go_enter Try.func10, Try.ntmps10
  go_wp2
  go_loopw [9] (fun i wr => ∃ k : Nat, k ≤ l.length ∧ i = .int .i64 k ∧ Hid (∀ j, j < k → inR (l.getD j Rn.none) c = false) ∧ Below w.heap.size w wr) (fun i _ => l.length - (intOf i).toNat)
  case atStart => exact ⟨0, Nat.zero_le _, rfl, (fun j hj => by omega), Below.refl _ _⟩
  case round =>
    obtain ⟨k, hk, rfl, HNO, hB⟩ := hrel
    by_cases hkn : k < l.length
    · obtain ⟨b, off, rfl, hb, hW, d0, d1, d2⟩ := HL.out.rn hB k hkn
      have HFA : Hid (_) := glR_at hkn HNO.out
      have HWK : Hid (_) := HW.out k hkn
      have HN2 : Hid (inR (l.getD k Rn.none) c = false → ∀ j, j < k + 1 → inR (l.getD j Rn.none) c = false) := fun hn j hj => by
        rcases Nat.lt_or_ge j k with h1 | h1
        · exact HNO.out j h1
        · rw [show j = k by omega]; exact hn
      generalize l.getD k Rn.none = x at *
      obtain ⟨x1, x2, x3⟩ := x
      obtain ⟨⟨m1, m2⟩, ⟨m3, m4⟩, ⟨m5, m6⟩⟩ := hW
      dsimp only at *
      have hBf := hB.trans ((bl1 (w := wr) (.cells #[.int .i64 x1, .int .i64 x2, .int .i64 x3] 43)).mono hB.size)
      by_cases f1 : x1 ≤ c
      rotate_left
      · have e1 : decide (x1 ≤ c) = false := decide_eq_false f1
        have HNN : Hid (_) := HN2.out (by unfold inR; exact decide_eq_false (fun h => f1 h.1))
        clear HNO HN2 HFA HWK hB
        go_wp2
        go_roundw
        case rel => exact ⟨k + 1, by omega, by go_num, HNN, hBf⟩
        case measure => simp [intOf]; omega
      have e1 : decide (x1 ≤ c) = true := decide_eq_true f1
      by_cases f2 : c ≤ x2
      rotate_left
      · have e2 : decide (c ≤ x2) = false := decide_eq_false f2
        have HNN : Hid (_) := HN2.out (by unfold inR; exact decide_eq_false (fun h => f2 h.2))
        clear HNO HN2 HFA HWK hB
        go_wp2
        go_roundw
        case rel => exact ⟨k + 1, by omega, by go_num, HNN, hBf⟩
        case measure => simp [intOf]; omega
      have e2 : decide (c ≤ x2) = true := decide_eq_true f2
      have hin : inR ⟨x1, x2, x3⟩ c = true := by unfold inR; exact decide_eq_true ⟨f1, f2⟩
      obtain ⟨⟨u1, u2⟩, ⟨u3, u4⟩⟩ := HWK.out hin
      have HF : Hid (glR c l = x3 + (c - x1)) := HFA.out hin
      clear HNO HN2 HFA HWK hB hin
      go_wp2
      go_ret
      exact ⟨rt_int HF.out.symm, hBf⟩
    · have HF : Hid (glR c l = 0) := glR_no (fun j hj => HNO.out j (by omega))
      have g4 : ¬ (k : Int) < (l.length : Int) := by omega
      clear HNO
      go_wp2
      go_ret
      exact ⟨rt_int HF.out.symm, hB⟩

end Go.Proofs.Ytgambbmonbhpnaa
