/-
  Rows of ints that are read, cut.
  How tents lie in a world: read (Tz), of the call's own (To), and how such a row grows by a list; numbers that are read, cut.
  Fields (plain mathematics).
  Stores: whether they are formed, which slots fit, the changes of rows, the values of slots (plain mathematics).
  How regions, rows and stores lie in a world: read (Tzz, Rii).
-/
import Derived.Test.YtchdoakoelfenaaGreatZX4
import Derived.Test.YtchdoakoelfenaaGreatZX13
import Derived.Test.YtchdoakoelfenaaGreatZX1
namespace Go.Proofs.YtchdoakoelfenaaGreat
open Go.RowKit Go.Maps
set_option linter.unusedSimpArgs false
set_option linter.unusedVariables false

/-- Numbers, cut. -/
theorem Ri.take {w : World} {a : Option Addr} {cap : Nat} {zs : List Int} (h : Ri w a cap zs) (n : Nat) : Ri w a cap (zs.take n) := by
  refine ⟨fun z hz => h.1 z (List.mem_of_mem_take hz), Nat.le_trans (by simp; omega) h.2.1, h.2.2.1, ?_⟩
  rcases h.2.2.2 with h4 | ⟨b, off, e, h5, h6⟩
  · exact .inl (by rw [h4]; simp)
  · refine .inr ⟨b, off, e, h5, fun i hi => ?_⟩
    have hi' : i < n ∧ i < zs.length := by simp at hi; omega
    rw [h6 i hi'.2]
    simp [List.getD, List.getElem?_take, hi'.1]
theorem Ri.drop {w : World} {b off cap : Nat} {zs : List Int} (h : Ri w (some ⟨b, off, none⟩) cap zs) (n : Nat) (hn : n ≤ zs.length) : Ri w (some ⟨b, off + n, none⟩) (cap - n) (zs.drop n) := by
  refine ⟨fun z hz => h.1 z (List.mem_of_mem_drop hz), ?_, Nat.le_trans (Nat.sub_le _ _) h.2.2.1, ?_⟩
  · have := h.2.1
    simp
    omega
  · rcases h.2.2.2 with h4 | ⟨b', off', e, h5, h6⟩
    · exact .inl (by rw [h4]; simp)
    · cases e
      refine .inr ⟨b, off + n, rfl, h5, fun i hi => ?_⟩
      have hi' : n + i < zs.length := by simp at hi; omega
      rw [Nat.add_assoc, h6 (n + i) hi']
      simp [List.getD]
/-- Numbers, cut at both ends. -/
theorem Ri.from {w : World} {a : Option Addr} {cap : Nat} {zs : List Int} (h : Ri w a cap zs) (n : Nat) (hn : n ≤ zs.length) : Ri w (if cap = n then a else a.map (fun x => x.add n)) (cap - n) (zs.drop n) := by
  by_cases h0 : n < zs.length
  · rcases h.2.2.2 with h4 | ⟨b, off, rfl, h5, h6⟩
    · rw [h4] at h0; simp at h0
    · have := h.2.1
      rw [if_neg (by omega)]
      have hadd : (⟨b, off, none⟩ : Addr).add n = ⟨b, off + n, none⟩ := by unfold Addr.add; split <;> simp_all
      show Ri w (some ((⟨b, off, none⟩ : Addr).add n)) _ _
      rw [hadd]
      exact h.drop n hn
  · have e : zs.drop n = [] := List.drop_eq_nil_of_le (by omega)
    rw [e]
    exact Ri.nil _ _ _ (Nat.le_trans (Nat.sub_le _ _) h.2.2.1)

end Go.Proofs.YtchdoakoelfenaaGreat

namespace Go.Proofs.YtchdoakoelfenaaGreat
open Go.RowKit Go.Maps
set_option linter.unusedSimpArgs false
set_option linter.unusedVariables false

/-- A tent's numbers are ints. -/
def Tw (t : Te) : Prop := I64 t.st ∧ I64 t.pk ∧ I64 t.en
/-- A tent's cells. -/
def teC (t : Te) : Array Value := #[.int .i64 t.st, .int .i64 t.pk, .int .i64 t.en]

/-- Tents that are read. -/
def Tz (w : World) (a : Option Addr) (cap : Nat) (l : List Te) : Prop :=
  l.length ≤ cap ∧ cap ≤ maxLen ∧ (∀ t ∈ l, Tw t) ∧ (a = none → cap = 0) ∧
  ∀ i, i < l.length → ∃ b off, a = some ⟨b, off, none⟩ ∧ b < w.heap.size ∧ w.cell? ⟨b, off + i * 3, none⟩ = some (.int .i64 (l.getD i Te.none).st) ∧
    w.cell? ⟨b, off + i * 3 + 1, none⟩ = some (.int .i64 (l.getD i Te.none).pk) ∧ w.cell? ⟨b, off + i * 3 + 2, none⟩ = some (.int .i64 (l.getD i Te.none).en)
theorem Tz.keep {w w' : World} {a : Option Addr} {cap : Nat} {l : List Te} (h : Tz w a cap l) (hs : w.heap.size ≤ w'.heap.size)
    (hb : ∀ b, b < w.heap.size → (∃ o, a = some ⟨b, o, none⟩) → l ≠ [] → w'.heap[b]? = w.heap[b]?) : Tz w' a cap l := by
  refine ⟨h.1, h.2.1, h.2.2.1, h.2.2.2.1, fun i hi => ?_⟩
  obtain ⟨b, off, h1, h2, h3, h4, h5⟩ := h.2.2.2.2 i hi
  have e := hb b h2 ⟨off, h1⟩ (fun e => by rw [e] at hi; simp at hi)
  exact ⟨b, off, h1, Nat.lt_of_lt_of_le h2 hs, (World.cell?_of_block (w := w) (a := ⟨b, off + i * 3, none⟩) e).trans h3, (World.cell?_of_block (w := w) (a := ⟨b, off + i * 3 + 1, none⟩) e).trans h4, (World.cell?_of_block (w := w) (a := ⟨b, off + i * 3 + 2, none⟩) e).trans h5⟩
theorem Tz.below {w w' : World} {a : Option Addr} {cap : Nat} {l : List Te} (h : Tz w a cap l) (hb : Below w.heap.size w w') : Tz w' a cap l :=
  h.keep hb.size fun b hb1 _ _ => hb.block b hb1
theorem Tz.at {w wr : World} {a : Option Addr} {cap : Nat} {l : List Te} (h : Tz w a cap l) (hb : Below w.heap.size w wr) (k : Nat) (hk : k < l.length) :
    ∃ b off, a = some ⟨b, off, none⟩ ∧ b < w.heap.size ∧ wr.cell? ⟨b, off + k * 3, none⟩ = some (.int .i64 (l.getD k Te.none).st) ∧
    wr.cell? ⟨b, off + k * 3 + 1, none⟩ = some (.int .i64 (l.getD k Te.none).pk) ∧ wr.cell? ⟨b, off + k * 3 + 2, none⟩ = some (.int .i64 (l.getD k Te.none).en) := by
  obtain ⟨b, off, h1, h2, h3, h4, h5⟩ := h.2.2.2.2 k hk
  exact ⟨b, off, h1, h2, (hb.cell (p := ⟨b, off + k * 3, none⟩) h2).trans h3, (hb.cell (p := ⟨b, off + k * 3 + 1, none⟩) h2).trans h4, (hb.cell (p := ⟨b, off + k * 3 + 2, none⟩) h2).trans h5⟩
theorem Tz.w {w : World} {a : Option Addr} {cap : Nat} {l : List Te} (h : Tz w a cap l) {k : Nat} (hk : k < l.length) : Tw (l.getD k Te.none) := h.2.2.1 _ (getT_mem hk)
theorem Tz.nil (w : World) (a : Option Addr) (cap : Nat) (h : cap ≤ maxLen) (h0 : a = none → cap = 0) : Tz w a cap [] := ⟨Nat.zero_le _, h, (fun t ht => by cases ht), h0, fun i hi => by simp at hi⟩
theorem Tz.lenB {w : World} {a : Option Addr} {cap : Nat} {l : List Te} (h : Tz w a cap l) : l.length ≤ 9223372036854775807 := by
  have h1 := h.1
  have h2 := h.2.1
  unfold maxLen at h2
  omega

theorem info_te : (Tryz.prog.info? 141).map (fun i => (i.zero, i.size, i.bytes)) = some (some (.agg #[.int .i64 0, .int .i64 0, .int .i64 0]), 3, 24) := by kernel_rfl

/-- The cells of tents. -/
def teL : List Te → List Value
  | [] => []
  | t :: l => [.int .i64 t.st, .int .i64 t.pk, .int .i64 t.en] ++ teL l
theorem teL_append (l m : List Te) : teL (l ++ m) = teL l ++ teL m := by
  induction l with
  | nil => rfl
  | cons t l ih => rw [List.cons_append, teL, teL, ih, List.append_assoc]
theorem teL_len (l : List Te) : (teL l).length = l.length * 3 := by
  induction l with
  | nil => rfl
  | cons t l ih => rw [teL, List.length_append, ih]; simp; omega
theorem teL_get : ∀ (l : List Te) (i : Nat), i < l.length → (teL l)[i * 3]? = some (.int .i64 (l.getD i Te.none).st) ∧ (teL l)[i * 3 + 1]? = some (.int .i64 (l.getD i Te.none).pk) ∧ (teL l)[i * 3 + 2]? = some (.int .i64 (l.getD i Te.none).en) := by
  intro l
  induction l with
  | nil => intro i hi; simp at hi
  | cons t l ih =>
    intro i hi
    cases i with
    | zero => simp [teL, List.getD]
    | succ i =>
      have := ih i (by simpa using hi)
      rw [teL]
      simp only [show (i + 1) * 3 = i * 3 + 3 by omega, List.getD_cons_succ]
      simp only [List.cons_append, List.nil_append, show i * 3 + 3 + 1 = i * 3 + 1 + 3 by omega, show i * 3 + 3 + 2 = i * 3 + 2 + 3 by omega]
      simpa using this
theorem teL_one : ∀ (l : List Te), ∀ u ∈ teL l, u.oneCell' = true := by
  intro l
  induction l with
  | nil => intro u hu; simp [teL] at hu
  | cons t l ih =>
    intro u hu
    rw [teL] at hu
    rcases List.mem_append.1 hu with hu | hu
    · simp at hu
      rcases hu with rfl | rfl | rfl <;> rfl
    · exact ih u hu
/-- A row of tents of the call's own. -/
def To (base : Nat) (w : World) (v : Value) (l : List Te) : Prop := (∀ t ∈ l, Tw t) ∧ w.ownsRow base 141 3 v l.length (teL l)
theorem To.nil (base : Nat) (w : World) : To base w (.slice none 0 0) [] := ⟨(fun t ht => by cases ht), World.ownsRow_nil w base _ 3⟩
theorem To.slice {base : Nat} {w : World} {v : Value} {l : List Te} (h : To base w v l) : ∃ a cap, v = .slice a l.length cap ∧ Tz w a cap l := by
  obtain ⟨h1, h3⟩ := h
  rcases h3.2 with ⟨rfl, h0⟩ | ⟨g, cap, cur, rfl, hb, hg, hc1, hc2, hc3, ht⟩
  · have : l = [] := List.length_eq_zero_iff.1 h0
    subst this
    exact ⟨none, 0, rfl, Tz.nil _ _ _ (Nat.zero_le _) (fun _ => rfl)⟩
  · refine ⟨_, cap, rfl, ⟨hc1, hc2, h1, (fun e => by cases e), fun i hi => ?_⟩⟩
    obtain ⟨k0, k1, k2⟩ := teL_get l i hi
    have hadd : ∀ j, (⟨g, 0, none⟩ : Addr).add j = ⟨g, 0 + j, none⟩ := by intro j; unfold Addr.add; split <;> simp_all
    have d0 := h3.cells (g := g) rfl (i * 3) _ k0
    have d1 := h3.cells (g := g) rfl (i * 3 + 1) _ k1
    have d2 := h3.cells (g := g) rfl (i * 3 + 2) _ k2
    rw [hadd] at d0 d1 d2
    exact ⟨g, 0, rfl, (Array.getElem?_eq_some_iff.1 hg).1, d0, d1, d2⟩
theorem To.below {base : Nat} {w w' : World} {v : Value} {l : List Te} (h : To base w v l) (hb : Below w.heap.size w w') : To base w' v l := by
  obtain ⟨h1, h3⟩ := h
  refine ⟨h1, h3.1, ?_⟩
  rcases h3.2 with h0 | ⟨g, cap', cur, k1, k2, k3, k4⟩
  · exact .inl h0
  · exact .inr ⟨g, cap', cur, k1, k2, (hb.block g (Array.getElem?_eq_some_iff.1 k3).1).trans k3, k4⟩
theorem To.lo {base : Nat} {w : World} {v : Value} {l : List Te} (h : To base w v l) {g : Nat} (hg : v.ownBlock = some g) : base ≤ g := (World.ownsRow.lt h.2 g hg).1
/-- 'append(both, a...)'. -/
theorem wpList_append_tes {w : World} {ops : Array Oper} {rest : List Oper} {o : Oper} {a : Act} {Q : Exit → Act → World → Prop}
    (hgd : o.guard = none) (s x : Operand) (ho : o.op = .call { callee := .builtin .append, args := #[s, x], argTypes := #[67, 67] })
    (base : Nat) (v : Value) (l : List Te) (hs : a.eval s = v) (hown : To base w v l) (pa : Option Addr) (pc n : Nat) (m : List Te) (hn : n = m.length) (hx : a.eval x = .slice pa n pc)
    (hp : Tz w pa pc m) (hlen : l.length + m.length ≤ 1000000) (hbase : base ≤ w.heap.size)
    (h : ∀ v' w', To base w' v' (l ++ m) → w.grownBy w' v.ownBlock → wpList Tryz.prog ops Q rest (a.put o.dst v') w') : wpList Tryz.prog ops Q (o :: rest) a w := by
  subst hn
  obtain ⟨i0, hi, hz0, hz1, hz2⟩ := info_parts info_te
  cases pa with
  | none =>
    obtain rfl := hp.2.2.2.1 rfl
    have hm : m = [] := List.length_eq_zero_iff.1 (Nat.le_zero.1 hp.1)
    subst hm
    exact wpList_append_own_none hgd s x 67 ho base 141 i0 3 Tryz.underlying67 hi v l.length (teL l) hs hown.2 hx (h v w (by simpa using hown) (World.grownBy.refl w _))
  | some ad =>
    refine wpList_append_own_at w hgd s x 67 ho base 141 i0 (.agg #[.int .i64 0, .int .i64 0, .int .i64 0]) 3 24 Tryz.underlying67 hi hz0 hz1 hz2 rfl (by decide) v l.length (teL l) hs hown.2 ad m.length pc (teL m) hx (teL_len m) ?_ (teL_one m) (by unfold maxLen; omega) (by omega) hbase ?_
    · intro j u hj
      have hjl : j < m.length * 3 := by
        rcases Nat.lt_or_ge j (m.length * 3) with h1 | h1
        · exact h1
        · rw [List.getElem?_eq_none (by rw [teL_len]; exact h1)] at hj; cases hj
      obtain ⟨b, off, e, _, c0, c1, c2⟩ := hp.2.2.2.2 (j / 3) (by omega)
      cases e
      obtain ⟨k0, k1, k2⟩ := teL_get m (j / 3) (by omega)
      have hadd : (⟨b, off, none⟩ : Addr).add j = ⟨b, off + j, none⟩ := by unfold Addr.add; split <;> simp_all
      rw [hadd]
      have h3 : j % 3 = 0 ∨ j % 3 = 1 ∨ j % 3 = 2 := by omega
      rcases h3 with h3 | h3 | h3
      · rw [show j / 3 * 3 = j by omega] at c0 k0
        rw [c0, ← hj, k0]
      · rw [show off + j / 3 * 3 + 1 = off + j by omega] at c1
        rw [show j / 3 * 3 + 1 = j by omega] at k1
        rw [c1, ← hj, k1]
      · rw [show off + j / 3 * 3 + 2 = off + j by omega] at c2
        rw [show j / 3 * 3 + 2 = j by omega] at k2
        rw [c2, ← hj, k2]
    · intro v' w' k1 k2 _ _
      refine h v' w' ⟨fun s hs => ?_, ?_⟩ k2
      · rcases List.mem_append.1 hs with hs | hs
        · exact hown.1 s hs
        · exact hp.2.2.1 s hs
      · rw [teL_append, List.length_append]
        exact k1

/-- A part of 0 makes all 0. -/
theorem alQ_zero {l : List Te} {cs : List Int} {j : Nat} (hj : j < l.length) (h : paQ (l.getD j Te.none) (cs.getD j 0) = 0) : alQ l cs = 0 := by
  have : ∀ k, j < k → alK l cs k = 0 := by
    intro k
    induction k with
    | zero => intro h1; omega
    | succ k ih =>
      intro h1
      rw [alK_succ]
      by_cases e : j = k
      · subst e
        rw [h, Rat.mul_zero]
      · rw [ih (by omega), Rat.zero_mul]
  exact this _ hj

end Go.Proofs.YtchdoakoelfenaaGreat

namespace Go.Proofs.YtchdoakoelfenaaGreat

/-- A number that is a field. -/
def fdB (n : Int) : Bool := decide (-32768 ≤ n ∧ n ≤ 32767)
theorem fdB_iff {n : Int} : fdB n = true ↔ -32768 ≤ n ∧ n ≤ 32767 := by unfold fdB; exact decide_eq_true_iff

end Go.Proofs.YtchdoakoelfenaaGreat

namespace Go.Proofs.YtchdoakoelfenaaGreat
set_option linter.unusedSimpArgs false
set_option linter.unusedVariables false

/-- A store: its regions, its rows. -/
structure Sr where
  rg : List (List Te)
  rw : List (List Int)
/-- A row that is formed, for a number of regions. -/
def roB (k : Nat) (r : List Int) : Bool := decide (r.length = k) && r.all fdB
def stB (s : Sr) (n : Int) : Bool := decide (0 ≤ n ∧ n ≤ 4) && (decide (s.rg.length ≤ 40) && (decide (s.rw.length ≤ 400) && (s.rg.all (fun l => rgB l n) && s.rw.all (roB s.rg.length))))
theorem stB_iff {s : Sr} {n : Int} : stB s n = true ↔ (0 ≤ n ∧ n ≤ 4) ∧ s.rg.length ≤ 40 ∧ s.rw.length ≤ 400 ∧ (∀ l ∈ s.rg, rgB l n = true) ∧ (∀ r ∈ s.rw, r.length = s.rg.length ∧ ∀ z ∈ r, -32768 ≤ z ∧ z ≤ 32767) := by
  unfold stB roB
  simp only [Bool.and_eq_true, decide_eq_true_iff, List.all_eq_true, fdB_iff]
/-- A slot that fits. -/
def fiS (s : Sr) (b r : Int) : Bool := fdB b && (decide (r = -1) || (decide (0 ≤ r) && (decide (r < (s.rw.length : Int)) && decide (r < 400))))
theorem fiS_iff {s : Sr} {b r : Int} : fiS s b r = true ↔ (-32768 ≤ b ∧ b ≤ 32767) ∧ (r = -1 ∨ (0 ≤ r ∧ r < (s.rw.length : Int) ∧ r < 400)) := by
  unfold fiS
  simp only [Bool.and_eq_true, Bool.or_eq_true, decide_eq_true_iff, fdB_iff]

/-- The change of a row by the first k regions. -/
def chK (g : List (List Te)) (r : List Int) (cs : List Int) : Nat → Rat
  | 0 => 0
  | k + 1 => chK g r cs k + alQ (g.getD k []) cs * ((r.getD k 0 : Int) : Rat)
theorem chK_succ (g : List (List Te)) (r cs : List Int) (k : Nat) : chK g r cs (k + 1) = chK g r cs k + alQ (g.getD k []) cs * ((r.getD k 0 : Int) : Rat) := rfl
/-- Whether a row counts. -/
def rwB (s : Sr) (i : Int) : Bool := decide (0 ≤ i ∧ i < (s.rw.length : Int) ∧ (s.rw.getD i.toNat []).length = s.rg.length)
theorem rwB_iff {s : Sr} {i : Int} : rwB s i = true ↔ 0 ≤ i ∧ i < (s.rw.length : Int) ∧ (s.rw.getD i.toNat []).length = s.rg.length := by unfold rwB; exact decide_eq_true_iff
def chQ (s : Sr) (i : Int) (cs : List Int) : Rat := if rwB s i then chK s.rg (s.rw.getD i.toNat []) cs s.rg.length else 0
theorem chQ_yes {s : Sr} {i : Int} (h : rwB s i = true) (cs : List Int) : chQ s i cs = chK s.rg (s.rw.getD i.toNat []) cs s.rg.length := by rw [chQ, if_pos h]
theorem chQ_no {s : Sr} {i : Int} (h : rwB s i = false) (cs : List Int) : chQ s i cs = 0 := by rw [chQ, if_neg (by rw [h]; decide)]
/-- A slot's value. -/
def vaQ (s : Sr) (b r : Int) (cs : List Int) : Rat := ((b : Int) : Rat) + chQ s r cs

/-- Rows that add up. -/
theorem chK_add {g : List (List Te)} {a b c : List Int} (cs : List Int) : ∀ k, (∀ j, j < k → c.getD j 0 = a.getD j 0 + b.getD j 0) → chK g c cs k = chK g a cs k + chK g b cs k := by
  intro k
  induction k with
  | zero => intro _; show (0 : Rat) = 0 + 0; rw [Rat.add_zero]
  | succ k ih =>
    intro h
    rw [chK_succ, chK_succ, chK_succ, ih (fun j hj => h j (by omega)), h k (by omega), Rat.intCast_add, Rat.mul_add]
    grind
theorem chK_mul {g : List (List Te)} {a c : List Int} (n : Int) (cs : List Int) : ∀ k, (∀ j, j < k → c.getD j 0 = n * a.getD j 0) → chK g c cs k = chK g a cs k * ((n : Int) : Rat) := by
  intro k
  induction k with
  | zero => intro _; show (0 : Rat) = 0 * _; rw [Rat.zero_mul]
  | succ k ih =>
    intro h
    rw [chK_succ, chK_succ, ih (fun j hj => h j (by omega)), h k (by omega), Rat.intCast_mul]
    grind
/-- Where no region holds everywhere nothing changes at the beginning. -/
theorem chK_start {g : List (List Te)} {r : List Int} (hf : ∀ j, j < g.length → (g.getD j []).all tfB = true) (he : ∀ j, j < g.length → evB (g.getD j []) = false) : ∀ k, k ≤ g.length → chK g r [] k = 0 := by
  intro k
  induction k with
  | zero => intro _; rfl
  | succ k ih =>
    intro hk
    rw [chK_succ, ih (by omega), (alQ_start (hf k (by omega))).2 (he k (by omega)), Rat.zero_mul, Rat.add_zero]
theorem getL {α : Type} {m : List (List α)} {k : Nat} (hk : k < m.length) : m.getD k [] = m[k] := by simp [List.getD, hk]
theorem getL_mem {α : Type} {m : List (List α)} {k : Nat} (hk : k < m.length) : m.getD k [] ∈ m := by rw [getL hk]; exact List.getElem_mem hk
theorem rgB_all {l : List Te} {n : Int} (h : rgB l n = true) : l.all tfB = true ∧ (l.length : Int) = n := by
  unfold rgB at h
  rw [Bool.and_eq_true, decide_eq_true_iff] at h
  exact h
theorem vaQ_start {s : Sr} {n b r : Int} (h : stB s n = true) (he : ∀ j, j < s.rg.length → evB (s.rg.getD j []) = false) : chQ s r [] = 0 ∧ vaQ s b r [] = ((b : Int) : Rat) := by
  have hs := stB_iff.1 h
  have hc : chQ s r [] = 0 := by
    cases hw : rwB s r with
    | false => exact chQ_no hw _
    | true =>
      rw [chQ_yes hw]
      exact chK_start (fun j hj => (rgB_all (hs.2.2.2.1 _ (getL_mem hj))).1) he _ (Nat.le_refl _)
  exact ⟨hc, by rw [vaQ, hc, Rat.add_zero]⟩

end Go.Proofs.YtchdoakoelfenaaGreat

namespace Go.Proofs.YtchdoakoelfenaaGreat
open Go.RowKit Go.Maps
set_option linter.unusedSimpArgs false
set_option linter.unusedVariables false

/-- Regions that are read. -/
def Tzz (w : World) (a : Option Addr) (cap : Nat) (g : List (List Te)) : Prop :=
  g.length ≤ cap ∧ cap ≤ maxLen ∧
  ∀ i, i < g.length → ∃ b off a' cap', a = some ⟨b, off, none⟩ ∧ b < w.heap.size ∧ w.cell? ⟨b, off + i, none⟩ = some (.slice a' (g.getD i []).length cap') ∧ Tz w a' cap' (g.getD i [])
theorem Tzz.at {w wr : World} {a : Option Addr} {cap : Nat} {m : List (List Te)} (h : Tzz w a cap m) (hb : Below w.heap.size w wr) (k : Nat) (hk : k < m.length) :
    ∃ b off a' cap', a = some ⟨b, off, none⟩ ∧ b < w.heap.size ∧ wr.cell? ⟨b, off + k, none⟩ = some (.slice a' (m.getD k []).length cap') ∧ Tz wr a' cap' (m.getD k []) := by
  obtain ⟨b, off, a', cap', h1, h2, h3, h4⟩ := h.2.2 k hk
  exact ⟨b, off, a', cap', h1, h2, (hb.cell (p := ⟨b, off + k, none⟩) h2).trans h3, h4.below hb⟩
theorem Tzz.below {w w' : World} {a : Option Addr} {cap : Nat} {m : List (List Te)} (h : Tzz w a cap m) (hb : Below w.heap.size w w') : Tzz w' a cap m := by
  refine ⟨h.1, h.2.1, fun i hi => ?_⟩
  obtain ⟨b, off, a', cap', h1, h2, h3⟩ := h.at hb i hi
  exact ⟨b, off, a', cap', h1, Nat.lt_of_lt_of_le h2 hb.size, h3⟩
theorem Tzz.nil (w : World) (a : Option Addr) (cap : Nat) (h : cap ≤ maxLen) : Tzz w a cap [] := ⟨Nat.zero_le _, h, fun i hi => by simp at hi⟩
theorem Tzz.lenB {w : World} {a : Option Addr} {cap : Nat} {m : List (List Te)} (h : Tzz w a cap m) : m.length ≤ 9223372036854775807 := by
  have h1 := h.1
  have h2 := h.2.1
  unfold maxLen at h2
  omega

/-- Rows of numbers that are read. -/
def Rii (w : World) (a : Option Addr) (cap : Nat) (m : List (List Int)) : Prop :=
  m.length ≤ cap ∧ cap ≤ maxLen ∧
  ∀ i, i < m.length → ∃ b off a' cap', a = some ⟨b, off, none⟩ ∧ b < w.heap.size ∧ w.cell? ⟨b, off + i, none⟩ = some (.slice a' (m.getD i []).length cap') ∧ Ri w a' cap' (m.getD i [])
theorem Rii.at {w wr : World} {a : Option Addr} {cap : Nat} {m : List (List Int)} (h : Rii w a cap m) (hb : Below w.heap.size w wr) (k : Nat) (hk : k < m.length) :
    ∃ b off a' cap', a = some ⟨b, off, none⟩ ∧ b < w.heap.size ∧ wr.cell? ⟨b, off + k, none⟩ = some (.slice a' (m.getD k []).length cap') ∧ Ri wr a' cap' (m.getD k []) := by
  obtain ⟨b, off, a', cap', h1, h2, h3, h4⟩ := h.2.2 k hk
  exact ⟨b, off, a', cap', h1, h2, (hb.cell (p := ⟨b, off + k, none⟩) h2).trans h3, h4.below hb⟩
theorem Rii.below {w w' : World} {a : Option Addr} {cap : Nat} {m : List (List Int)} (h : Rii w a cap m) (hb : Below w.heap.size w w') : Rii w' a cap m := by
  refine ⟨h.1, h.2.1, fun i hi => ?_⟩
  obtain ⟨b, off, a', cap', h1, h2, h3⟩ := h.at hb i hi
  exact ⟨b, off, a', cap', h1, Nat.lt_of_lt_of_le h2 hb.size, h3⟩
theorem Rii.nil (w : World) (a : Option Addr) (cap : Nat) (h : cap ≤ maxLen) : Rii w a cap [] := ⟨Nat.zero_le _, h, fun i hi => by simp at hi⟩
theorem Rii.lenB {w : World} {a : Option Addr} {cap : Nat} {m : List (List Int)} (h : Rii w a cap m) : m.length ≤ 9223372036854775807 := by
  have h1 := h.1
  have h2 := h.2.1
  unfold maxLen at h2
  omega
theorem Rii.lens {w : World} {a : Option Addr} {cap : Nat} {m : List (List Int)} (h : Rii w a cap m) (k : Nat) (hk : k < m.length) : (m.getD k []).length ≤ 9223372036854775807 := by
  obtain ⟨_, _, _, _, _, _, _, h4⟩ := h.2.2 k hk
  exact h4.lenB

/-- A store's block: two slices. -/
def BxS (w : World) (g : Nat) (x y : Value) : Prop := w.heap[g]? = some (.cells #[x, y] 29 (0, 0))
theorem BxS.cells {w : World} {g : Nat} {x y : Value} (h : BxS w g x y) :
    w.cell? ⟨g, 0, none⟩ = some x ∧ w.cell? ⟨g, 1, none⟩ = some y ∧ w.frozen? ⟨g, 0, none⟩ = false ∧ w.frozen? ⟨g, 1, none⟩ = false :=
  ⟨cell_of_row w g 0 _ _ (0, 0) h, cell_of_row w g 1 _ _ (0, 0) h, frozen_of_row w g 0 _ _ h, frozen_of_row w g 1 _ _ h⟩
theorem BxS.set0 {w : World} {g : Nat} {x y : Value} (h : BxS w g x y) (z : Value) : BxS (w.setCell ⟨g, 0, none⟩ z) g z y := heap_setCell_same w g 0 _ _ z h
theorem BxS.set1 {w : World} {g : Nat} {x y : Value} (h : BxS w g x y) (z : Value) : BxS (w.setCell ⟨g, 1, none⟩ z) g x z := heap_setCell_same w g 1 _ _ z h
theorem BxS.lt {w : World} {g : Nat} {x y : Value} (h : BxS w g x y) : g < w.heap.size := (Array.getElem?_eq_some_iff.1 h).1
theorem BxS.below {w w' : World} {g : Nat} {x y : Value} (h : BxS w g x y) (hb : Below w.heap.size w w') : BxS w' g x y := (hb.block g h.lt).trans h
theorem BxS.new (w : World) (x y : Value) : BxS (w.alloc (.cells #[x, y] 29)) w.heap.size x y := heap_alloc_new w _
/-- A slot's block: two numbers. -/
def BxL (w : World) (g : Nat) (x y : Value) : Prop := w.heap[g]? = some (.cells #[x, y] 45 (0, 0))
theorem BxL.cells {w : World} {g : Nat} {x y : Value} (h : BxL w g x y) :
    w.cell? ⟨g, 0, none⟩ = some x ∧ w.cell? ⟨g, 1, none⟩ = some y ∧ w.frozen? ⟨g, 0, none⟩ = false ∧ w.frozen? ⟨g, 1, none⟩ = false :=
  ⟨cell_of_row w g 0 _ _ (0, 0) h, cell_of_row w g 1 _ _ (0, 0) h, frozen_of_row w g 0 _ _ h, frozen_of_row w g 1 _ _ h⟩
theorem BxL.lt {w : World} {g : Nat} {x y : Value} (h : BxL w g x y) : g < w.heap.size := (Array.getElem?_eq_some_iff.1 h).1
theorem BxL.below {w w' : World} {g : Nat} {x y : Value} (h : BxL w g x y) (hb : Below w.heap.size w w') : BxL w' g x y := (hb.block g h.lt).trans h
theorem BxL.new (w : World) (x y : Value) : BxL (w.alloc (.cells #[x, y] 45)) w.heap.size x y := heap_alloc_new w _
theorem BxL.new1 (w : World) (o : Obj) (x y : Value) : BxL ((w.alloc o).alloc (.cells #[x, y] 45)) (w.heap.size + 1) x y := by
  have h := BxL.new (w.alloc o) x y
  simpa using h

end Go.Proofs.YtchdoakoelfenaaGreat
