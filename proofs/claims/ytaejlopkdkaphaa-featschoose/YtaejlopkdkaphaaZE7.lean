/-
  How things of the language lie in a world, one for all: their cells, and what these lead to (El); rows of them that are read (Gr), and of the call's own (Gw).
  An append as an operation of a region that draws.
  Rows of the call's own: a store into an element; append as an operation of a region that draws.
  A block of cells, known whole (Bk). Nothing here is a walk.
-/
import Derived.Test.YtaejlopkdkaphaaZE1
namespace Go.Proofs.Ytaejlopkdkaphaa
open Go.RowKit Go.Maps
set_option linter.unusedSimpArgs false
set_option linter.unusedVariables false

/-- How a thing lies: its cells, and what they lead to, all of it in blocks of S. -/
structure El (α : Type) where
  sz : Nat
  dfl : α
  rep : (Nat → Prop) → World → List Value → α → Prop
  len : ∀ {S : Nat → Prop} {w : World} {vs : List Value} {x : α}, rep S w vs x → vs.length = sz
  one : ∀ {S : Nat → Prop} {w : World} {vs : List Value} {x : α}, rep S w vs x → ∀ u ∈ vs, u.oneCell' = true
  stay : ∀ {S S' : Nat → Prop} {w w' : World} {vs : List Value} {x : α}, rep S w vs x → w.heap.size ≤ w'.heap.size → (∀ k, S k → k < w.heap.size → S' k ∧ w'.heap[k]? = w.heap[k]?) → rep S' w' vs x

/-- A number of a kind. -/
def El.num (k : IntKind) (lo hi : Int) : El Int where
  sz := 1
  dfl := 0
  rep := fun _ _ vs z => vs = [.int k z] ∧ lo ≤ z ∧ z ≤ hi
  len := fun h => by rw [h.1]; rfl
  one := fun h u hu => by rw [h.1] at hu; rw [List.mem_singleton.1 hu]; rfl
  stay := fun h _ _ => h
/-- An int. -/
def El.int : El Int := El.num .i64 (-9223372036854775808) 9223372036854775807
theorem El.int_rep {S : Nat → Prop} {w : World} {vs : List Value} {z : Int} : El.int.rep S w vs z ↔ vs = [.int .i64 z] ∧ I64 z := Iff.rfl
/-- A bool. -/
def El.bool : El Bool where
  sz := 1
  dfl := false
  rep := fun _ _ vs z => vs = [.bool z]
  len := fun h => by rw [h]; rfl
  one := fun h u hu => by rw [h] at hu; rw [List.mem_singleton.1 hu]; rfl
  stay := fun h _ _ => h
/-- A text. -/
def El.str : El ByteArray where
  sz := 1
  dfl := ByteArray.empty
  rep := fun _ _ vs z => vs = [.string z] ∧ z.size ≤ maxLen
  len := fun h => by rw [h.1]; rfl
  one := fun h u hu => by rw [h.1] at hu; rw [List.mem_singleton.1 hu]; rfl
  stay := fun h _ _ => h
/-- One behind the other. -/
def El.cat {α β : Type} (E : El α) (F : El β) : El (α × β) where
  sz := E.sz + F.sz
  dfl := (E.dfl, F.dfl)
  rep := fun S w vs p => ∃ us ts, vs = us ++ ts ∧ E.rep S w us p.1 ∧ F.rep S w ts p.2
  len := fun ⟨us, ts, e, h1, h2⟩ => by rw [e, List.length_append, E.len h1, F.len h2]
  one := fun ⟨us, ts, e, h1, h2⟩ u hu => by
    rw [e] at hu
    rcases List.mem_append.1 hu with hu | hu
    · exact E.one h1 u hu
    · exact F.one h2 u hu
  stay := fun ⟨us, ts, e, h1, h2⟩ hs hk => ⟨us, ts, e, E.stay h1 hs hk, F.stay h2 hs hk⟩
/-- The same, under another name. -/
def El.via {α β : Type} (E : El α) (f : β → α) (d : β) : El β where
  sz := E.sz
  dfl := d
  rep := fun S w vs b => E.rep S w vs (f b)
  len := fun h => E.len h
  one := fun h => E.one h
  stay := fun h hs hk => E.stay h hs hk

/-- A row that is read: where its cells are, and what its elements lead to, in blocks of S. -/
def Gr {α : Type} (E : El α) (S : Nat → Prop) (w : World) (a : Option Addr) (cap : Nat) (l : List α) : Prop :=
  l.length ≤ cap ∧ cap ≤ maxLen ∧ (a = none → cap = 0) ∧
  ∀ i, i < l.length → ∃ b off vs, a = some ⟨b, off, none⟩ ∧ b < w.heap.size ∧ E.rep S w vs (l.getD i E.dfl) ∧ ∀ j, j < E.sz → w.cell? ⟨b, off + i * E.sz + j, none⟩ = vs[j]?
theorem Gr.nil {α : Type} (E : El α) (S : Nat → Prop) (w : World) (a : Option Addr) (cap : Nat) (h : cap ≤ maxLen) (h0 : a = none → cap = 0) : Gr E S w a cap [] := ⟨Nat.zero_le _, h, h0, fun i hi => by simp at hi⟩
theorem Gr.lenB {α : Type} {E : El α} {S : Nat → Prop} {w : World} {a : Option Addr} {cap : Nat} {l : List α} (h : Gr E S w a cap l) : l.length ≤ 9223372036854775807 := by
  have h1 := h.1
  have h2 := h.2.1
  unfold maxLen at h2
  omega
theorem Gr.blk {α : Type} {E : El α} {S : Nat → Prop} {w : World} {a : Option Addr} {cap : Nat} {l : List α} (h : Gr E S w a cap l) (hl : l ≠ []) : ∃ b off, a = some ⟨b, off, none⟩ ∧ b < w.heap.size := by
  obtain ⟨b, off, vs, e, hb, _⟩ := h.2.2.2 0 (List.length_pos_iff.2 hl)
  exact ⟨b, off, e, hb⟩
theorem Gr.stay {α : Type} {E : El α} {S S' : Nat → Prop} {w w' : World} {a : Option Addr} {cap : Nat} {l : List α} (h : Gr E S w a cap l) (hs : w.heap.size ≤ w'.heap.size)
    (hk : ∀ k, S k → k < w.heap.size → S' k ∧ w'.heap[k]? = w.heap[k]?) (ha : ∀ b o, a = some ⟨b, o, none⟩ → l ≠ [] → b < w.heap.size → w'.heap[b]? = w.heap[b]?) : Gr E S' w' a cap l := by
  refine ⟨h.1, h.2.1, h.2.2.1, fun i hi => ?_⟩
  obtain ⟨b, off, vs, e, hb, h1, h2⟩ := h.2.2.2 i hi
  have hbk := ha b off e (fun e0 => by rw [e0] at hi; simp at hi) hb
  exact ⟨b, off, vs, e, Nat.lt_of_lt_of_le hb hs, E.stay h1 hs hk, fun j hj => (World.cell?_of_block (w := w) (a := ⟨b, off + i * E.sz + j, none⟩) hbk).trans (h2 j hj)⟩
theorem Gr.below {α : Type} {E : El α} {S : Nat → Prop} {w w' : World} {a : Option Addr} {cap : Nat} {l : List α} (h : Gr E S w a cap l) (hb : Below w.heap.size w w') : Gr E S w' a cap l :=
  h.stay hb.size (fun k hk hl => ⟨hk, hb.block k hl⟩) (fun b o e hl h1 => hb.block b h1)
theorem Gr.wide {α : Type} {E : El α} {S S' : Nat → Prop} {w : World} {a : Option Addr} {cap : Nat} {l : List α} (h : Gr E S w a cap l) (hk : ∀ k, S k → k < w.heap.size → S' k) : Gr E S' w a cap l :=
  h.stay (Nat.le_refl _) (fun k h1 h2 => ⟨hk k h1 h2, rfl⟩) (fun _ _ _ _ _ => rfl)
theorem Gr.at {α : Type} {E : El α} {S : Nat → Prop} {w wr : World} {a : Option Addr} {cap : Nat} {l : List α} (h : Gr E S w a cap l) (hb : Below w.heap.size w wr) (k : Nat) (hk : k < l.length) :
    ∃ b off vs, a = some ⟨b, off, none⟩ ∧ b < w.heap.size ∧ E.rep S wr vs (l.getD k E.dfl) ∧ ∀ j, j < E.sz → wr.cell? ⟨b, off + k * E.sz + j, none⟩ = vs[j]? := by
  obtain ⟨b, off, vs, e, h0, h1, h2⟩ := h.2.2.2 k hk
  exact ⟨b, off, vs, e, h0, E.stay h1 hb.size (fun k hk hl => ⟨hk, hb.block k hl⟩), fun j hj => (hb.cell (p := ⟨b, off + k * E.sz + j, none⟩) h0).trans (h2 j hj)⟩
theorem Gr.take {α : Type} {E : El α} {S : Nat → Prop} {w : World} {a : Option Addr} {cap : Nat} {l : List α} (h : Gr E S w a cap l) (n : Nat) : Gr E S w a cap (l.take n) := by
  refine ⟨Nat.le_trans (by simp; omega) h.1, h.2.1, h.2.2.1, fun i hi => ?_⟩
  have hi' : i < n ∧ i < l.length := by simp at hi; omega
  obtain ⟨b, off, vs, e, h0, h1, h2⟩ := h.2.2.2 i hi'.2
  have eg : (l.take n).getD i E.dfl = l.getD i E.dfl := by simp [List.getD, List.getElem?_take, hi'.1]
  exact ⟨b, off, vs, e, h0, by rw [eg]; exact h1, h2⟩
theorem Gr.from {α : Type} {E : El α} {S : Nat → Prop} {w : World} {b off cap : Nat} {l : List α} (h : Gr E S w (some ⟨b, off, none⟩) cap l) (n : Nat) (hn : n ≤ l.length) : Gr E S w (some ⟨b, off + n * E.sz, none⟩) (cap - n) (l.drop n) := by
  refine ⟨by have := h.1; simp; omega, Nat.le_trans (Nat.sub_le _ _) h.2.1, (fun e => by cases e), fun i hi => ?_⟩
  have hi' : n + i < l.length := by simp at hi; omega
  obtain ⟨b', off', vs, e, h0, h1, h2⟩ := h.2.2.2 (n + i) hi'
  cases e
  have eg : (l.drop n).getD i E.dfl = l.getD (n + i) E.dfl := by simp [List.getD]
  refine ⟨b, off + n * E.sz, vs, rfl, h0, by rw [eg]; exact h1, fun j hj => ?_⟩
  rw [show off + n * E.sz + i * E.sz + j = off + (n + i) * E.sz + j by rw [Nat.add_mul]; omega]
  exact h2 j hj

/-- A row, as a thing. -/
def El.row {α : Type} (E : El α) : El (List α) where
  sz := 1
  dfl := []
  rep := fun S w vs l => ∃ a cap, vs = [.slice a l.length cap] ∧ (∀ b o, a = some ⟨b, o, none⟩ → l ≠ [] → S b) ∧ Gr E S w a cap l ∧ l.length ≤ 140737488351232
  len := fun ⟨a, cap, e, _⟩ => by rw [e]; rfl
  one := fun ⟨a, cap, e, _⟩ u hu => by rw [e] at hu; rw [List.mem_singleton.1 hu]; rfl
  stay := fun ⟨a, cap, e, hS, h, hlb⟩ hs hk => by
    refine ⟨a, cap, e, fun b o e1 hl => ?_, h.stay hs hk (fun b o e1 hl hb => (hk b (hS b o e1 hl) hb).2), hlb⟩
    obtain ⟨b', o', e2, hb⟩ := h.blk hl
    rw [e1] at e2
    cases e2
    exact (hk b (hS b o e1 hl) hb).1

theorem flat_len' {sz : Nat} : ∀ {vss : List (List Value)}, (∀ i, i < vss.length → (vss.getD i []).length = sz) → vss.flatten.length = vss.length * sz := by
  intro vss
  induction vss with
  | nil => intro _; simp
  | cons vs t ih =>
    intro h
    have h0 : vs.length = sz := h 0 (by simp)
    have h1 := ih (fun i hi => h (i + 1) (by simpa using hi))
    rw [List.flatten_cons, List.length_append, h0, h1, List.length_cons, Nat.add_mul]
    omega
theorem flat_get {sz : Nat} : ∀ {vss : List (List Value)} {i j : Nat}, (∀ i, i < vss.length → (vss.getD i []).length = sz) → i < vss.length → j < sz → vss.flatten[i * sz + j]? = (vss.getD i [])[j]? := by
  intro vss
  induction vss with
  | nil => intro i j _ hi _; simp at hi
  | cons vs t ih =>
    intro i j h hi hj
    have h0 : vs.length = sz := h 0 (by simp)
    cases i with
    | zero => rw [List.flatten_cons, Nat.zero_mul, Nat.zero_add, List.getElem?_append_left (by omega)]; rfl
    | succ i =>
      have h1 := ih (fun i hi => h (i + 1) (by simpa using hi)) (i := i) (j := j) (by simpa using hi) hj
      rw [List.flatten_cons, List.getElem?_append_right (by rw [h0, Nat.add_mul]; omega), h0, show (i + 1) * sz + j - sz = i * sz + j by rw [Nat.add_mul]; omega, h1]
      rfl

/-- A row of the call's own: its elements lead to blocks of S alone, not to the row's own. -/
def Gw {α : Type} (E : El α) (t : TypeId) (base : Nat) (S : Nat → Prop) (w : World) (v : Value) (l : List α) : Prop :=
  ∃ vss : List (List Value), vss.length = l.length ∧ w.ownsRow base t E.sz v l.length vss.flatten ∧ ∀ i, i < l.length → E.rep (fun k => S k ∧ v.ownBlock ≠ some k) w (vss.getD i []) (l.getD i E.dfl)
theorem Gw.nil {α : Type} (E : El α) (t : TypeId) (base : Nat) (S : Nat → Prop) (w : World) : Gw E t base S w (.slice none 0 0) [] := ⟨[], rfl, World.ownsRow_nil w base _ _, fun i hi => by simp at hi⟩
theorem Gw.made {α : Type} {E : El α} {t : TypeId} {base : Nat} {S : Nat → Prop} {w : World} {v : Value} (h : w.ownsRow base t E.sz v 0 []) : Gw E t base S w v [] := ⟨[], rfl, h, fun i hi => by simp at hi⟩
theorem Gw.slice {α : Type} {E : El α} {t : TypeId} {base : Nat} {S : Nat → Prop} {w : World} {v : Value} {l : List α} (h : Gw E t base S w v l) : ∃ a cap, v = .slice a l.length cap ∧ Gr E S w a cap l ∧ ∀ b o, a = some ⟨b, o, none⟩ → base ≤ b ∧ b < w.heap.size := by
  obtain ⟨vss, hl, h3, h4⟩ := h
  have h5 : ∀ i, i < vss.length → (vss.getD i []).length = E.sz := fun i hi => E.len (h4 i (by omega))
  have hown := h3
  rcases h3.2 with ⟨rfl, h0⟩ | ⟨g, cap, cur, rfl, hb, hg, hc1, hc2, hc3, ht⟩
  · have : l = [] := List.length_eq_zero_iff.1 h0
    subst this
    exact ⟨none, 0, rfl, Gr.nil _ _ _ _ _ (Nat.zero_le _) (fun _ => rfl), fun b o e => by cases e⟩
  · refine ⟨_, cap, rfl, ⟨hc1, hc2, (fun e => by cases e), fun i hi => ?_⟩, fun b o e => by cases e; exact ⟨hb, (Array.getElem?_eq_some_iff.1 hg).1⟩⟩
    refine ⟨g, 0, vss.getD i [], rfl, (Array.getElem?_eq_some_iff.1 hg).1, E.stay (h4 i hi) (Nat.le_refl _) (fun k hk _ => ⟨hk.1, rfl⟩), fun j hj => ?_⟩
    have hadd : ∀ j, (⟨g, 0, none⟩ : Addr).add j = ⟨g, 0 + j, none⟩ := by intro j; unfold Addr.add; split <;> simp_all
    have e := flat_get h5 (i := i) (j := j) (by omega) hj
    have hjl : j < (vss.getD i []).length := by rw [h5 i (by omega)]; exact hj
    rw [List.getElem?_eq_getElem hjl] at e ⊢
    have d := hown.cells (g := g) rfl (i * E.sz + j) _ e
    rw [hadd] at d
    rw [← d]
    simp [Nat.add_assoc]
theorem Gw.lo {α : Type} {E : El α} {t : TypeId} {base : Nat} {S : Nat → Prop} {w : World} {v : Value} {l : List α} (h : Gw E t base S w v l) {g : Nat} (hg : v.ownBlock = some g) : base ≤ g ∧ g < w.heap.size := by
  obtain ⟨vss, hl, h3, h4⟩ := h
  exact World.ownsRow.lt h3 g hg
theorem Gw.stay {α : Type} {E : El α} {t : TypeId} {base : Nat} {S S' : Nat → Prop} {w w' : World} {v : Value} {l : List α} (h : Gw E t base S w v l) (hs : w.heap.size ≤ w'.heap.size)
    (hk : ∀ k, S k → v.ownBlock ≠ some k → k < w.heap.size → S' k ∧ w'.heap[k]? = w.heap[k]?) (ho : ∀ k, v.ownBlock = some k → w'.heap[k]? = w.heap[k]?) : Gw E t base S' w' v l := by
  obtain ⟨vss, hl, h3, h4⟩ := h
  refine ⟨vss, hl, ⟨h3.1, ?_⟩, fun i hi => E.stay (h4 i hi) hs (fun k h1 h2 => ⟨⟨(hk k h1.1 h1.2 h2).1, h1.2⟩, (hk k h1.1 h1.2 h2).2⟩)⟩
  rcases h3.2 with h0 | ⟨g, cap', cur, k1, k2, k3, k4⟩
  · exact .inl h0
  · exact .inr ⟨g, cap', cur, k1, k2, (ho g (by rw [k1]; rfl)).trans k3, k4⟩
theorem Gw.below {α : Type} {E : El α} {t : TypeId} {base : Nat} {S : Nat → Prop} {w w' : World} {v : Value} {l : List α} (h : Gw E t base S w v l) (hb : Below w.heap.size w w') : Gw E t base S w' v l :=
  h.stay hb.size (fun k h1 _ h2 => ⟨h1, hb.block k h2⟩) (fun k hk => hb.block k (h.lo hk).2)
/-- The row's block knows its element's type. -/
theorem Gw.ty {α : Type} {E : El α} {t : TypeId} {base : Nat} {S : Nat → Prop} {w : World} {v : Value} {l : List α} (h : Gw E t base S w v l) {g : Nat} (hg : v.ownBlock = some g) : ∃ cur, w.heap[g]? = some (.cells cur t (0, 0)) := by
  obtain ⟨vss, hl, h3, h4⟩ := h
  rcases h3.2 with ⟨e, _⟩ | ⟨g', cap', cur, k1, k2, k3, k4⟩
  · rw [e] at hg; cases hg
  · rw [k1] at hg
    have e : some g' = some g := hg
    injection e with e
    rw [← e]
    exact ⟨cur, k3⟩
/-- Two rows of unlike element types are two blocks. -/
theorem Gw.ne {α β : Type} {E : El α} {F : El β} {t u : TypeId} {base base2 : Nat} {S S2 : Nat → Prop} {w : World} {v x : Value} {l : List α} {m : List β} (h : Gw E t base S w v l) (h2 : Gw F u base2 S2 w x m) (ht : t ≠ u) {g : Nat} (hg : v.ownBlock = some g) : x.ownBlock ≠ some g := by
  intro e
  obtain ⟨c1, k1⟩ := h.ty hg
  obtain ⟨c2, k2⟩ := h2.ty e
  rw [k1] at k2
  simp at k2
  exact ht k2.2
/-- What the walk lays of a row that is grown: the other rows and what is read beside it stay. -/
theorem Gw.beside {α β : Type} {E : El α} {F : El β} {t u : TypeId} {base base2 : Nat} {S S2 : Nat → Prop} {w w' : World} {v x : Value} {l : List α} {m : List β} (h : Gw E t base S w v l) (h2 : Gw F u base2 S2 w x m) (ht : t ≠ u) (hS : ∀ k, S k → x.ownBlock ≠ some k) (hg : w.grownBy w' x.ownBlock) : Gw E t base S w' v l :=
  h.stay hg.size (fun k h1 _ h3 => ⟨h1, hg.block k h3 (fun e => hS k h1 e.symm)⟩) (fun k hk => hg.block k (h.lo hk).2 (fun e => h.ne h2 ht hk e.symm))

/-- 'append(v, x...)'. -/
theorem wpList_append_el {α : Type} {E : El α} {w : World} {ops : Array Oper} {rest : List Oper} {o : Oper} {a : Act} {Q : Exit → Act → World → Prop} (t e : TypeId) {z : Value} {by' : Nat}
    (ht : Try.prog.underlying t = some (.slice e)) (hinfo : (Try.prog.info? e).map (fun i => (i.zero, i.size, i.bytes)) = some (some z, E.sz, by')) (hzs : z.cells.size = E.sz) (hsz : 0 < E.sz) (hby : by' ≤ 1000)
    (hgd : o.guard = none) (s x : Operand) (ho : o.op = .call { callee := .builtin .append, args := #[s, x], argTypes := #[t, t] })
    (base : Nat) (S : Nat → Prop) (v : Value) (l : List α) (hs : a.eval s = v) (hown : Gw E e base S w v l) (pa : Option Addr) (pc n : Nat) (m : List α) (hn : n = m.length) (hx : a.eval x = .slice pa n pc)
    (hp : Gr E (fun k => S k ∧ v.ownBlock ≠ some k) w pa pc m) (hlen : l.length + m.length ≤ 1000000) (hbase : base ≤ w.heap.size)
    (h : ∀ v' w', Gw E e base S w' v' (l ++ m) → w.grownBy w' v.ownBlock → (v'.ownBlock = v.ownBlock ∨ v'.ownBlock = some w.heap.size) → wpList Try.prog ops Q rest (a.put o.dst v') w') : wpList Try.prog ops Q (o :: rest) a w := by
  subst hn
  obtain ⟨i0, hi, hz0, hz1, hz2⟩ := info_parts hinfo
  obtain ⟨vss, hl, h3, h4⟩ := hown
  have grown : ∀ v' w' (uss : List (List Value)), uss.length = m.length → (∀ i, i < m.length → E.rep (fun k => S k ∧ v.ownBlock ≠ some k) w (uss.getD i []) (m.getD i E.dfl)) → w'.ownsRow base e E.sz v' (l.length + m.length) (vss.flatten ++ uss.flatten) → w.grownBy w' v.ownBlock → (v'.ownBlock = v.ownBlock ∨ v'.ownBlock = some w.heap.size) → Gw E e base S w' v' (l ++ m) := by
    intro v' w' uss hul hu k1 k2 k4
    have hst : ∀ vs y, E.rep (fun k => S k ∧ v.ownBlock ≠ some k) w vs y → E.rep (fun k => S k ∧ v'.ownBlock ≠ some k) w' vs y := fun vs y hy => E.stay hy k2.size (fun k hk hlt => ⟨⟨hk.1, by
      rcases k4 with k4 | k4
      · rw [k4]; exact hk.2
      · rw [k4]; intro e'; cases e'; exact absurd hlt (Nat.lt_irrefl _)⟩, k2.block k hlt (fun e' => hk.2 e'.symm)⟩)
    refine ⟨vss ++ uss, by rw [List.length_append, List.length_append, hl, hul], by rw [List.length_append, List.flatten_append]; exact k1, fun i hi => ?_⟩
    by_cases him : i < l.length
    · have e1 : (l ++ m).getD i E.dfl = l.getD i E.dfl := by simp [List.getD, List.getElem?_append_left him]
      have e2 : (vss ++ uss).getD i [] = vss.getD i [] := by simp [List.getD, List.getElem?_append_left (show i < vss.length by omega)]
      rw [e1, e2]
      exact hst _ _ (h4 i him)
    · have him' : i - l.length < m.length := by simp at hi; omega
      have e1 : (l ++ m).getD i E.dfl = m.getD (i - l.length) E.dfl := by simp [List.getD, List.getElem?_append_right (show l.length ≤ i by omega)]
      have e2 : (vss ++ uss).getD i [] = uss.getD (i - l.length) [] := by simp [List.getD, List.getElem?_append_right (show vss.length ≤ i by omega), hl]
      rw [e1, e2]
      exact hst _ _ (hu _ him')
  cases pa with
  | none =>
    obtain rfl := hp.2.2.1 rfl
    have hm : m = [] := List.length_eq_zero_iff.1 (Nat.le_zero.1 hp.1)
    subst hm
    refine wpList_append_own_none hgd s x t ho base e i0 E.sz ht hi v l.length vss.flatten hs h3 hx (h v w (by rw [List.append_nil]; exact ⟨vss, hl, h3, h4⟩) (World.grownBy.refl w _) (.inl rfl))
  | some ad =>
    obtain ⟨uss, hul, hu⟩ : ∃ uss : List (List Value), uss.length = m.length ∧ ∀ i, i < m.length → E.rep (fun k => S k ∧ v.ownBlock ≠ some k) w (uss.getD i []) (m.getD i E.dfl) ∧ ∀ j, j < E.sz → w.cell? (ad.add (i * E.sz + j)) = (uss.getD i [])[j]? := by
      have key : ∀ k, k ≤ m.length → ∃ uss : List (List Value), uss.length = k ∧ ∀ i, i < k → E.rep (fun k => S k ∧ v.ownBlock ≠ some k) w (uss.getD i []) (m.getD i E.dfl) ∧ ∀ j, j < E.sz → w.cell? (ad.add (i * E.sz + j)) = (uss.getD i [])[j]? := by
        intro k
        induction k with
        | zero => exact fun _ => ⟨[], rfl, fun i hi => by omega⟩
        | succ k ih =>
          intro hk
          obtain ⟨uss, h1, h2⟩ := ih (by omega)
          obtain ⟨b, off, vs, e1, hb, hr, hc⟩ := hp.2.2.2 k (by omega)
          cases e1
          refine ⟨uss ++ [vs], by simp [h1], fun i hi => ?_⟩
          by_cases hik : i < k
          · have e2 : (uss ++ [vs]).getD i [] = uss.getD i [] := by simp [List.getD, List.getElem?_append_left (show i < uss.length by omega)]
            rw [e2]
            exact h2 i hik
          · obtain rfl : i = k := by omega
            have e2 : (uss ++ [vs]).getD i [] = vs := by simp [List.getD, ← h1]
            rw [e2]
            refine ⟨hr, fun j hj => ?_⟩
            have hadd : (⟨b, off, none⟩ : Addr).add (i * E.sz + j) = ⟨b, off + (i * E.sz + j), none⟩ := by unfold Addr.add; split <;> simp_all
            rw [hadd, ← Nat.add_assoc]
            exact hc j hj
      exact key m.length (Nat.le_refl _)
    have hul5 : ∀ i, i < uss.length → (uss.getD i []).length = E.sz := fun i hi => E.len (hu i (by omega)).1
    refine wpList_append_own_at w hgd s x t ho base e i0 z E.sz by' ht hi hz0 hz1 hz2 hzs hsz v l.length vss.flatten hs h3 ad m.length pc uss.flatten hx (by rw [flat_len' hul5, hul]) ?_ ?_ (by unfold maxLen; omega) (by
        have := Nat.mul_le_mul hlen hby
        omega) hbase (fun v' w' k1 k2 _ k4 => h v' w' (grown v' w' uss hul (fun i hi => (hu i hi).1) k1 k2 k4) k2 k4)
    · intro j u hj
      have hjl : j < m.length * E.sz := by
        rcases Nat.lt_or_ge j (m.length * E.sz) with h1 | h1
        · exact h1
        · rw [List.getElem?_eq_none (by rw [flat_len' hul5, hul]; exact h1)] at hj; cases hj
      have hjd : j / E.sz < m.length := (Nat.div_lt_iff_lt_mul hsz).2 hjl
      have e1 : j / E.sz * E.sz + j % E.sz = j := by rw [Nat.mul_comm]; exact Nat.div_add_mod j E.sz
      have h1 := (hu (j / E.sz) hjd).2 (j % E.sz) (Nat.mod_lt _ hsz)
      have h2 := flat_get hul5 (i := j / E.sz) (j := j % E.sz) (by omega) (Nat.mod_lt _ hsz)
      rw [e1] at h1 h2
      rw [h1, ← h2, hj]
    · intro u hu1
      obtain ⟨vs, hvs, hu2⟩ := List.mem_flatten.1 hu1
      obtain ⟨i, hi, e1⟩ := List.getElem_of_mem hvs
      have := E.one (hu i (by omega)).1 u
      rw [List.getD_eq_getElem?_getD, List.getElem?_eq_getElem hi, Option.getD_some, e1] at this
      exact this hu2
/-- 'append(v, x)': x is laid in a block of its own first. -/
theorem Gr.one {α : Type} {E : El α} {S : Nat → Prop} {w : World} {g : Nat} {x : α} {vs : List Value} (hr : E.rep S w vs x) (hg : g < w.heap.size) (hc : ∀ j, j < E.sz → w.cell? ⟨g, j, none⟩ = vs[j]?) : Gr E S w (some ⟨g, 0, none⟩) 1 [x] := by
  refine ⟨Nat.le_refl _, by unfold maxLen; omega, (fun e => by cases e), fun i hi => ?_⟩
  obtain rfl : i = 0 := by simpa using hi
  exact ⟨g, 0, vs, rfl, hg, hr, fun j hj => by simpa using hc j hj⟩
theorem Gr.one_new {α : Type} {E : El α} {S : Nat → Prop} {w : World} {x : α} (vs : List Value) (t : TypeId) (hr : E.rep S w vs x) : Gr E S (w.alloc (.cells vs.toArray t)) (some ⟨w.heap.size, 0, none⟩) 1 [x] := by
  refine Gr.one (E.stay hr (bl1 _).size (fun k hk hl => ⟨hk, (bl1 _).block k hl⟩)) (by simp) (fun j hj => ?_)
  have := cell_of_row _ w.heap.size j _ _ (0, 0) (heap_alloc_new w (.cells vs.toArray t))
  rw [this]
  simp

end Go.Proofs.Ytaejlopkdkaphaa

namespace Go.Proofs.Ytaejlopkdkaphaa
open Go.RowKit Go.Maps
set_option linter.unusedSimpArgs false
set_option linter.unusedVariables false

theorem wp_append_own_at {P : Program} (w : World) {o : Oper} {a : Act} {K : Act → World → Prop} {Q : Exit → Act → World → Prop} (s x : Operand) (t : TypeId)
    (ho : o.op = .call { callee := .builtin .append, args := #[s, x], argTypes := #[t, t] })
    (base : Nat) (e : TypeId) (i : TypeInfo) (z : Value) (size bytes : Nat) (ht : P.underlying t = some (.slice e)) (hi : P.info? e = some i) (hz : i.zero = some z)
    (hsize : i.size = size) (hby : i.bytes = bytes) (hzs : z.cells.size = size) (hsz : 0 < size)
    (v : Value) (n : Nat) (xs : List Value) (hs : a.eval s = v) (hown : w.ownsRow base e size v n xs)
    (ad : Addr) (m c : Nat) (news : List Value) (hx : a.eval x = .slice (some ad) m c) (hl : news.length = m * size) (hnews : ∀ j u, news[j]? = some u → w.cell? (ad.add j) = some u) (h1 : ∀ u ∈ news, u.oneCell' = true)
    (h63 : n + m ≤ maxLen) (hbytes : (n + m) * bytes ≤ 140737488355328) (hbase : base ≤ w.heap.size)
    (h : ∀ v' w', w'.ownsRow base e size v' (n + m) (xs ++ news) → w.grownBy w' v.ownBlock → (v' = .slice none 0 0 ↔ v = .slice none 0 0 ∧ m = 0) → (v'.ownBlock = v.ownBlock ∨ v'.ownBlock = some w.heap.size) → K (a.put o.dst v') w') :
    o.wp P a w K Q := by
  obtain ⟨v', w', hr, h2, h3, h4, h5⟩ := run_append_own_at (P := P) w base t o.type e i z size bytes ht hi hz hsize hby hzs hsz v n xs hown ad m c news hl hnews h1 h63 hbytes hbase
  unfold Oper.wp execOp
  simp only [ho, resolve, invoke, builtin, Sem.run_bind, Sem.run_pure, Result.andThen_ok, List.map_toArray, List.map_cons, List.map_nil, hs, hx, hr]
  exact h v' w' h2 h3 h4 h5

end Go.Proofs.Ytaejlopkdkaphaa

namespace Go.Proofs.Ytaejlopkdkaphaa
open Go.RowKit Go.Maps
set_option linter.unusedSimpArgs false
set_option linter.unusedVariables false

theorem flat_set {sz : Nat} : ∀ {vss : List (List Value)} {i j : Nat} (x : Value), (∀ i, i < vss.length → (vss.getD i []).length = sz) → i < vss.length → j < sz → (vss.set i ((vss.getD i []).set j x)).flatten = vss.flatten.set (i * sz + j) x := by
  intro vss
  induction vss with
  | nil => intro i j x _ hi _; simp at hi
  | cons vs t ih =>
    intro i j x h hi hj
    have h0 : vs.length = sz := h 0 (by simp)
    cases i with
    | zero =>
      rw [List.set_cons_zero, List.getD_cons_zero, List.flatten_cons, List.flatten_cons, Nat.zero_mul, Nat.zero_add, List.set_append_left _ _ (by omega)]
    | succ i =>
      have h1 := ih (i := i) (j := j) x (fun i hi => h (i + 1) (by simpa using hi)) (by simpa using hi) hj
      rw [List.set_cons_succ, List.getD_cons_succ, List.flatten_cons, List.flatten_cons, h1, List.set_append_right _ _ (by rw [h0, Nat.add_mul]; omega), h0, show (i + 1) * sz + j - sz = i * sz + j by rw [Nat.add_mul]; omega]
/-- A row of the call's own that isn't empty: its block, its cells, and a store into one. -/
theorem Gw.own {α : Type} {E : El α} {t : TypeId} {base : Nat} {S : Nat → Prop} {w : World} {v : Value} {l : List α} (h : Gw E t base S w v l) (hne : l ≠ []) :
    ∃ g cap, v = .slice (some ⟨g, 0, none⟩) l.length cap ∧ base ≤ g ∧ g < w.heap.size ∧ l.length ≤ cap ∧ (∀ n, w.frozen? ⟨g, n, none⟩ = false) ∧
      (∀ i, i < l.length → ∃ vs, E.rep S w vs (l.getD i E.dfl) ∧ ∀ j, j < E.sz → w.cell? ⟨g, i * E.sz + j, none⟩ = vs[j]?) ∧
      ∀ i j x y, i < l.length → j < E.sz → (∀ S' vs, E.rep S' w vs (l.getD i E.dfl) → E.rep S' w (vs.set j x) y) → Gw E t base S (w.setCell ⟨g, i * E.sz + j, none⟩ x) v (l.set i y) := by
  have hsl := h
  obtain ⟨a0, c0, e0, hgr, _⟩ := hsl.slice
  obtain ⟨vss, hl, h3, h4⟩ := h
  have h5 : ∀ i, i < vss.length → (vss.getD i []).length = E.sz := fun i hi => E.len (h4 i (by omega))
  rcases h3.2 with ⟨rfl, e1⟩ | ⟨g, cap, cur, rfl, hb, hg, hc1, hc2, hc3, ht⟩
  · exact absurd (List.length_eq_zero_iff.1 e1) hne
  · refine ⟨g, cap, rfl, hb, (Array.getElem?_eq_some_iff.1 hg).1, hc1, fun n => frozen_of_row w g n _ _ hg, fun i hi => ?_, fun i j x y hi hj hrep => ?_⟩
    · obtain ⟨b, off, vs, e2, hb2, hr, hc⟩ := hgr.2.2.2 i hi
      injection e0 with e0
      rw [← e0] at e2
      cases e2
      exact ⟨vs, hr, fun j hj => by simpa using hc j hj⟩
    · have hset := heap_setCell_same w g (i * E.sz + j) cur t x hg
      have hoth : ∀ k, k ≠ g → (w.setCell ⟨g, i * E.sz + j, none⟩ x).heap[k]? = w.heap[k]? := fun k hk => Below.heap_setCell _ _ _ _ (fun e => hk e)
      have hsz : (w.setCell ⟨g, i * E.sz + j, none⟩ x).heap.size = w.heap.size := by simp [World.setCell]
      have hst : ∀ vs z, E.rep (fun k => S k ∧ (Value.slice (some ⟨g, 0, none⟩) l.length cap).ownBlock ≠ some k) w vs z → E.rep (fun k => S k ∧ (Value.slice (some ⟨g, 0, none⟩) l.length cap).ownBlock ≠ some k) (w.setCell ⟨g, i * E.sz + j, none⟩ x) vs z := fun vs z hz => E.stay hz (by rw [hsz]; exact Nat.le_refl _) (fun k hk _ => ⟨hk, hoth k (fun e => hk.2 (by rw [e]; rfl))⟩)
      have hfl := flat_set (i := i) (j := j) x h5 (by omega) hj
      refine ⟨vss.set i ((vss.getD i []).set j x), by rw [List.length_set, List.length_set, hl], ⟨?_, .inr ⟨g, cap, _, by rw [List.length_set], hb, hset, by simpa using hc1, hc2, by simpa using hc3, ?_⟩⟩, fun k hk => ?_⟩
      · rw [hfl, List.length_set, List.length_set]; exact h3.1
      · rw [hfl, List.length_set, ← ht]
        simp [List.take_set]
      · rw [List.length_set] at hk
        by_cases hki : k = i
        · subst hki
          have e1 : (vss.set k ((vss.getD k []).set j x)).getD k [] = (vss.getD k []).set j x := by simp [List.getD, show k < vss.length by omega]
          have e2 : (l.set k y).getD k E.dfl = y := by simp [List.getD, hk]
          rw [e1, e2]
          exact hst _ _ (hrep _ _ (h4 k hk))
        · have e1 : (vss.set i ((vss.getD i []).set j x)).getD k [] = vss.getD k [] := by simp [List.getD, List.getElem?_set_ne (fun e => hki e.symm)]
          have e2 : (l.set i y).getD k E.dfl = l.getD k E.dfl := by simp [List.getD, List.getElem?_set_ne (fun e => hki e.symm)]
          rw [e1, e2]
          exact hst _ _ (h4 k hk)
/-- 'append(v, x...)' in a region that draws; x isn't nil. -/
theorem wp_append_el {α : Type} {E : El α} {w : World} {o : Oper} {a : Act} {K : Act → World → Prop} {Q : Exit → Act → World → Prop} (t e : TypeId) {z : Value} {by' : Nat}
    (ht : Try.prog.underlying t = some (.slice e)) (hinfo : (Try.prog.info? e).map (fun i => (i.zero, i.size, i.bytes)) = some (some z, E.sz, by')) (hzs : z.cells.size = E.sz) (hsz : 0 < E.sz) (hby : by' ≤ 1000)
    (s x : Operand) (ho : o.op = .call { callee := .builtin .append, args := #[s, x], argTypes := #[t, t] })
    (base : Nat) (S : Nat → Prop) (v : Value) (l : List α) (hs : a.eval s = v) (hown : Gw E e base S w v l) (ad : Addr) (pc n : Nat) (m : List α) (hn : n = m.length) (hx : a.eval x = .slice (some ad) n pc)
    (hp : Gr E (fun k => S k ∧ v.ownBlock ≠ some k) w (some ad) pc m) (hlen : l.length + m.length ≤ 1000000) (hbase : base ≤ w.heap.size)
    (h : ∀ v' w', Gw E e base S w' v' (l ++ m) → w.grownBy w' v.ownBlock → (v'.ownBlock = v.ownBlock ∨ v'.ownBlock = some w.heap.size) → K (a.put o.dst v') w') : o.wp Try.prog a w K Q := by
  subst hn
  obtain ⟨i0, hi, hz0, hz1, hz2⟩ := info_parts hinfo
  obtain ⟨vss, hl, h3, h4⟩ := hown
  obtain ⟨uss, hul, hu⟩ : ∃ uss : List (List Value), uss.length = m.length ∧ ∀ i, i < m.length → E.rep (fun k => S k ∧ v.ownBlock ≠ some k) w (uss.getD i []) (m.getD i E.dfl) ∧ ∀ j, j < E.sz → w.cell? (ad.add (i * E.sz + j)) = (uss.getD i [])[j]? := by
    have key : ∀ k, k ≤ m.length → ∃ uss : List (List Value), uss.length = k ∧ ∀ i, i < k → E.rep (fun k => S k ∧ v.ownBlock ≠ some k) w (uss.getD i []) (m.getD i E.dfl) ∧ ∀ j, j < E.sz → w.cell? (ad.add (i * E.sz + j)) = (uss.getD i [])[j]? := by
      intro k
      induction k with
      | zero => exact fun _ => ⟨[], rfl, fun i hi => by omega⟩
      | succ k ih =>
        intro hk
        obtain ⟨uss, h1, h2⟩ := ih (by omega)
        obtain ⟨b, off, vs, e1, hb, hr, hc⟩ := hp.2.2.2 k (by omega)
        cases e1
        refine ⟨uss ++ [vs], by simp [h1], fun i hi => ?_⟩
        by_cases hik : i < k
        · have e2 : (uss ++ [vs]).getD i [] = uss.getD i [] := by simp [List.getD, List.getElem?_append_left (show i < uss.length by omega)]
          rw [e2]
          exact h2 i hik
        · obtain rfl : i = k := by omega
          have e2 : (uss ++ [vs]).getD i [] = vs := by simp [List.getD, ← h1]
          rw [e2]
          refine ⟨hr, fun j hj => ?_⟩
          have hadd : (⟨b, off, none⟩ : Addr).add (i * E.sz + j) = ⟨b, off + (i * E.sz + j), none⟩ := by unfold Addr.add; split <;> simp_all
          rw [hadd, ← Nat.add_assoc]
          exact hc j hj
    exact key m.length (Nat.le_refl _)
  have hul5 : ∀ i, i < uss.length → (uss.getD i []).length = E.sz := fun i hi => E.len (hu i (by omega)).1
  refine wp_append_own_at w s x t ho base e i0 z E.sz by' ht hi hz0 hz1 hz2 hzs hsz v l.length vss.flatten hs h3 ad m.length pc uss.flatten hx (by rw [flat_len' hul5, hul]) ?_ ?_ (by unfold maxLen; omega) (by
      have := Nat.mul_le_mul hlen hby
      omega) hbase (fun v' w' k1 k2 _ k4 => h v' w' ?_ k2 k4)
  · intro j u hj
    have hjl : j < m.length * E.sz := by
      rcases Nat.lt_or_ge j (m.length * E.sz) with h1 | h1
      · exact h1
      · rw [List.getElem?_eq_none (by rw [flat_len' hul5, hul]; exact h1)] at hj; cases hj
    have hjd : j / E.sz < m.length := (Nat.div_lt_iff_lt_mul hsz).2 hjl
    have e1 : j / E.sz * E.sz + j % E.sz = j := by rw [Nat.mul_comm]; exact Nat.div_add_mod j E.sz
    have h1 := (hu (j / E.sz) hjd).2 (j % E.sz) (Nat.mod_lt _ hsz)
    have h2 := flat_get hul5 (i := j / E.sz) (j := j % E.sz) (by omega) (Nat.mod_lt _ hsz)
    rw [e1] at h1 h2
    rw [h1, ← h2, hj]
  · intro u hu1
    obtain ⟨vs, hvs, hu2⟩ := List.mem_flatten.1 hu1
    obtain ⟨i, hi, e1⟩ := List.getElem_of_mem hvs
    have := E.one (hu i (by omega)).1 u
    rw [List.getD_eq_getElem?_getD, List.getElem?_eq_getElem hi, Option.getD_some, e1] at this
    exact this hu2
  · have hst : ∀ vs y, E.rep (fun k => S k ∧ v.ownBlock ≠ some k) w vs y → E.rep (fun k => S k ∧ v'.ownBlock ≠ some k) w' vs y := fun vs y hy => E.stay hy k2.size (fun k hk hlt => ⟨⟨hk.1, by
      rcases k4 with k4 | k4
      · rw [k4]; exact hk.2
      · rw [k4]; intro e'; cases e'; exact absurd hlt (Nat.lt_irrefl _)⟩, k2.block k hlt (fun e' => hk.2 e'.symm)⟩)
    refine ⟨vss ++ uss, by rw [List.length_append, List.length_append, hl, hul], by rw [List.length_append, List.flatten_append]; exact k1, fun i hi => ?_⟩
    by_cases him : i < l.length
    · have e1 : (l ++ m).getD i E.dfl = l.getD i E.dfl := by simp [List.getD, List.getElem?_append_left him]
      have e2 : (vss ++ uss).getD i [] = vss.getD i [] := by simp [List.getD, List.getElem?_append_left (show i < vss.length by omega)]
      rw [e1, e2]
      exact hst _ _ (h4 i him)
    · have him' : i - l.length < m.length := by simp at hi; omega
      have e1 : (l ++ m).getD i E.dfl = m.getD (i - l.length) E.dfl := by simp [List.getD, List.getElem?_append_right (show l.length ≤ i by omega)]
      have e2 : (vss ++ uss).getD i [] = uss.getD (i - l.length) [] := by simp [List.getD, List.getElem?_append_right (show vss.length ≤ i by omega), hl]
      rw [e1, e2]
      exact hst _ _ (hu _ him').1

end Go.Proofs.Ytaejlopkdkaphaa

namespace Go.Proofs.Ytaejlopkdkaphaa
open Go.RowKit Go.Maps
set_option linter.unusedSimpArgs false
set_option linter.unusedVariables false

/-- A block that holds these cells, and may be written. -/
def Bk (t : TypeId) (w : World) (g : Nat) (cs : List Value) : Prop := w.heap[g]? = some (.cells cs.toArray t (0, 0))
theorem Bk.lt {t : TypeId} {w : World} {g : Nat} {cs : List Value} (h : Bk t w g cs) : g < w.heap.size := (Array.getElem?_eq_some_iff.1 h).1
theorem Bk.below {t : TypeId} {w w' : World} {g : Nat} {cs : List Value} (h : Bk t w g cs) (hb : Below w.heap.size w w') : Bk t w' g cs := (hb.block g h.lt).trans h
theorem Bk.kept {t : TypeId} {G : Nat → Prop} {w w' : World} {g : Nat} {cs : List Value} (h : Bk t w g cs) (hk : Keep G w w') (hg : G g) : Bk t w' g cs := (hk.block g hg).trans h
theorem Bk.new (t : TypeId) (w : World) (cs : List Value) : Bk t (w.alloc (.cells cs.toArray t)) w.heap.size cs := heap_alloc_new w _
theorem Bk.new1 (t : TypeId) (w : World) (o : Obj) (cs : List Value) : Bk t ((w.alloc o).alloc (.cells cs.toArray t)) (w.heap.size + 1) cs := by
  have h := Bk.new t (w.alloc o) cs
  simpa using h
theorem Bk.cell {t : TypeId} {w : World} {g : Nat} {cs : List Value} (h : Bk t w g cs) (j : Nat) (hj : j < cs.length) : w.cell? ⟨g, j, none⟩ = cs[j]? := by
  rw [cell_of_row w g j _ _ (0, 0) h]
  simp
theorem Bk.fz {t : TypeId} {w : World} {g : Nat} {cs : List Value} (h : Bk t w g cs) (j : Nat) : w.frozen? ⟨g, j, none⟩ = false := frozen_of_row w g j _ _ h
theorem Bk.two {t : TypeId} {w : World} {g : Nat} {x y : Value} (h : Bk t w g [x, y]) : w.cell? ⟨g, 0, none⟩ = some x ∧ w.cell? ⟨g, 1, none⟩ = some y ∧ w.frozen? ⟨g, 0, none⟩ = false ∧ w.frozen? ⟨g, 1, none⟩ = false :=
  ⟨h.cell 0 (by simp), h.cell 1 (by simp), h.fz 0, h.fz 1⟩
theorem Bk.three {t : TypeId} {w : World} {g : Nat} {x y z : Value} (h : Bk t w g [x, y, z]) : w.cell? ⟨g, 0, none⟩ = some x ∧ w.cell? ⟨g, 1, none⟩ = some y ∧ w.cell? ⟨g, 2, none⟩ = some z ∧ w.frozen? ⟨g, 0, none⟩ = false ∧ w.frozen? ⟨g, 1, none⟩ = false ∧ w.frozen? ⟨g, 2, none⟩ = false :=
  ⟨h.cell 0 (by simp), h.cell 1 (by simp), h.cell 2 (by simp), h.fz 0, h.fz 1, h.fz 2⟩
theorem Bk.four {t : TypeId} {w : World} {g : Nat} {x y z u : Value} (h : Bk t w g [x, y, z, u]) : w.cell? ⟨g, 0, none⟩ = some x ∧ w.cell? ⟨g, 1, none⟩ = some y ∧ w.cell? ⟨g, 2, none⟩ = some z ∧ w.cell? ⟨g, 3, none⟩ = some u ∧ w.frozen? ⟨g, 0, none⟩ = false ∧ w.frozen? ⟨g, 1, none⟩ = false ∧ w.frozen? ⟨g, 2, none⟩ = false ∧ w.frozen? ⟨g, 3, none⟩ = false :=
  ⟨h.cell 0 (by simp), h.cell 1 (by simp), h.cell 2 (by simp), h.cell 3 (by simp), h.fz 0, h.fz 1, h.fz 2, h.fz 3⟩
theorem Bk.set {t : TypeId} {w : World} {g : Nat} {cs : List Value} (h : Bk t w g cs) (j : Nat) (z : Value) : Bk t (w.setCell ⟨g, j, none⟩ z) g (cs.set j z) := by
  have := heap_setCell_same w g j _ _ z h
  unfold Bk
  rw [this]
  simp
theorem Bk.other {t : TypeId} {w : World} {g b : Nat} {cs : List Value} (h : Bk t w g cs) (j : Nat) (z : Value) (hb : g ≠ b) : Bk t (w.setCell ⟨b, j, none⟩ z) g cs := (Below.heap_setCell _ _ _ _ (fun e => hb e)).trans h
theorem Bk.grown {t : TypeId} {w w' : World} {g : Nat} {cs : List Value} {v : Option Nat} (h : Bk t w g cs) (hg : w.grownBy w' v) (hv : v ≠ some g) : Bk t w' g cs := (hg.block g h.lt (fun e => hv e.symm)).trans h

end Go.Proofs.Ytaejlopkdkaphaa
