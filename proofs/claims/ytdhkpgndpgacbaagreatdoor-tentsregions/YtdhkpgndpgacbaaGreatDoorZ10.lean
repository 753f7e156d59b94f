/-
  How tents lie in a world: read (Tz), of the call's own (To), and how such a row grows by a list; numbers that are read, cut.
  tents.rises, turned: the walks.
  tents.Formed, tents.coordinateOf: the walks.
  A tent's part, case by case (plain mathematics).
  tents.Part: the walk.
-/
import Derived.Test.YtdhkpgndpgacbaaGreatDoorZ9
namespace Go.Proofs.YtdhkpgndpgacbaaGreatDoor
open Go.RowKit Go.Maps
set_option linter.unusedSimpArgs false
set_option linter.unusedVariables false

/-- A tent's numbers are ints. -/
def Tw (t : Te) : Prop := I64 t.st ∧ I64 t.pk ∧ I64 t.en
/-- A tent's cells. -/
def teC (t : Te) : Array Value := #[.int .i64 t.st, .int .i64 t.pk, .int .i64 t.en]

/-- Tents that are read. -/
def Tz (w : World) (a : Option Addr) (cap : Nat) (l : List Te) : Prop :=
  l.length ≤ cap ∧ cap ≤ maxLen ∧ (∀ t ∈ l, Tw t) ∧ (a = none → cap = 0) ∧
  ∀ i, i < l.length → ∃ b off, a = some ⟨b, off, none⟩ ∧ b < w.heap.size ∧ w.cell? ⟨b, off + i * 3, none⟩ = some (.int .i64 (l.getD i Te.none).st) ∧
    w.cell? ⟨b, off + i * 3 + 1, none⟩ = some (.int .i64 (l.getD i Te.none).pk) ∧ w.cell? ⟨b, off + i * 3 + 2, none⟩ = some (.int .i64 (l.getD i Te.none).en)
theorem Tz.keep {w w' : World} {a : Option Addr} {cap : Nat} {l : List Te} (h : Tz w a cap l) (hs : w.heap.size ≤ w'.heap.size)
    (hb : ∀ b, b < w.heap.size → (∃ o, a = some ⟨b, o, none⟩) → l ≠ [] → w'.heap[b]? = w.heap[b]?) : Tz w' a cap l := by
  refine ⟨h.1, h.2.1, h.2.2.1, h.2.2.2.1, fun i hi => ?_⟩
  obtain ⟨b, off, h1, h2, h3, h4, h5⟩ := h.2.2.2.2 i hi
  have e := hb b h2 ⟨off, h1⟩ (fun e => by rw [e] at hi; simp at hi)
  exact ⟨b, off, h1, Nat.lt_of_lt_of_le h2 hs, (World.cell?_of_block (w := w) (a := ⟨b, off + i * 3, none⟩) e).trans h3, (World.cell?_of_block (w := w) (a := ⟨b, off + i * 3 + 1, none⟩) e).trans h4, (World.cell?_of_block (w := w) (a := ⟨b, off + i * 3 + 2, none⟩) e).trans h5⟩
theorem Tz.below {w w' : World} {a : Option Addr} {cap : Nat} {l : List Te} (h : Tz w a cap l) (hb : Below w.heap.size w w') : Tz w' a cap l :=
  h.keep hb.size fun b hb1 _ _ => hb.block b hb1
theorem Tz.at {w wr : World} {a : Option Addr} {cap : Nat} {l : List Te} (h : Tz w a cap l) (hb : Below w.heap.size w wr) (k : Nat) (hk : k < l.length) :
    ∃ b off, a = some ⟨b, off, none⟩ ∧ b < w.heap.size ∧ wr.cell? ⟨b, off + k * 3, none⟩ = some (.int .i64 (l.getD k Te.none).st) ∧
    wr.cell? ⟨b, off + k * 3 + 1, none⟩ = some (.int .i64 (l.getD k Te.none).pk) ∧ wr.cell? ⟨b, off + k * 3 + 2, none⟩ = some (.int .i64 (l.getD k Te.none).en) := by
  obtain ⟨b, off, h1, h2, h3, h4, h5⟩ := h.2.2.2.2 k hk
  exact ⟨b, off, h1, h2, (hb.cell (p := ⟨b, off + k * 3, none⟩) h2).trans h3, (hb.cell (p := ⟨b, off + k * 3 + 1, none⟩) h2).trans h4, (hb.cell (p := ⟨b, off + k * 3 + 2, none⟩) h2).trans h5⟩
theorem Tz.w {w : World} {a : Option Addr} {cap : Nat} {l : List Te} (h : Tz w a cap l) {k : Nat} (hk : k < l.length) : Tw (l.getD k Te.none) := h.2.2.1 _ (getT_mem hk)
theorem Tz.nil (w : World) (a : Option Addr) (cap : Nat) (h : cap ≤ maxLen) (h0 : a = none → cap = 0) : Tz w a cap [] := ⟨Nat.zero_le _, h, (fun t ht => by cases ht), h0, fun i hi => by simp at hi⟩
theorem Tz.lenB {w : World} {a : Option Addr} {cap : Nat} {l : List Te} (h : Tz w a cap l) : l.length ≤ 9223372036854775807 := by
  have h1 := h.1
  have h2 := h.2.1
  unfold maxLen at h2
  omega

theorem info_te : (Tryz.prog.info? 42).map (fun i => (i.zero, i.size, i.bytes)) = some (some (.agg #[.int .i64 0, .int .i64 0, .int .i64 0]), 3, 24) := by kernel_rfl

/-- The cells of tents. -/
def teL : List Te → List Value
  | [] => []
  | t :: l => [.int .i64 t.st, .int .i64 t.pk, .int .i64 t.en] ++ teL l
theorem teL_append (l m : List Te) : teL (l ++ m) = teL l ++ teL m := by
  induction l with
  | nil => rfl
  | cons t l ih => rw [List.cons_append, teL, teL, ih, List.append_assoc]
theorem teL_len (l : List Te) : (teL l).length = l.length * 3 := by
  induction l with
  | nil => rfl
  | cons t l ih => rw [teL, List.length_append, ih]; simp; omega
theorem teL_get : ∀ (l : List Te) (i : Nat), i < l.length → (teL l)[i * 3]? = some (.int .i64 (l.getD i Te.none).st) ∧ (teL l)[i * 3 + 1]? = some (.int .i64 (l.getD i Te.none).pk) ∧ (teL l)[i * 3 + 2]? = some (.int .i64 (l.getD i Te.none).en) := by
  intro l
  induction l with
  | nil => intro i hi; simp at hi
  | cons t l ih =>
    intro i hi
    cases i with
    | zero => simp [teL, List.getD]
    | succ i =>
      have := ih i (by simpa using hi)
      rw [teL]
      simp only [show (i + 1) * 3 = i * 3 + 3 by omega, List.getD_cons_succ]
      simp only [List.cons_append, List.nil_append, show i * 3 + 3 + 1 = i * 3 + 1 + 3 by omega, show i * 3 + 3 + 2 = i * 3 + 2 + 3 by omega]
      simpa using this
theorem teL_one : ∀ (l : List Te), ∀ u ∈ teL l, u.oneCell' = true := by
  intro l
  induction l with
  | nil => intro u hu; simp [teL] at hu
  | cons t l ih =>
    intro u hu
    rw [teL] at hu
    rcases List.mem_append.1 hu with hu | hu
    · simp at hu
      rcases hu with rfl | rfl | rfl <;> rfl
    · exact ih u hu
/-- A row of tents of the call's own. -/
def To (base : Nat) (w : World) (v : Value) (l : List Te) : Prop := (∀ t ∈ l, Tw t) ∧ w.ownsRow base 42 3 v l.length (teL l)
theorem To.nil (base : Nat) (w : World) : To base w (.slice none 0 0) [] := ⟨(fun t ht => by cases ht), World.ownsRow_nil w base _ 3⟩
theorem To.slice {base : Nat} {w : World} {v : Value} {l : List Te} (h : To base w v l) : ∃ a cap, v = .slice a l.length cap ∧ Tz w a cap l := by
  obtain ⟨h1, h3⟩ := h
  rcases h3.2 with ⟨rfl, h0⟩ | ⟨g, cap, cur, rfl, hb, hg, hc1, hc2, hc3, ht⟩
  · have : l = [] := List.length_eq_zero_iff.1 h0
    subst this
    exact ⟨none, 0, rfl, Tz.nil _ _ _ (Nat.zero_le _) (fun _ => rfl)⟩
  · refine ⟨_, cap, rfl, ⟨hc1, hc2, h1, (fun e => by cases e), fun i hi => ?_⟩⟩
    obtain ⟨k0, k1, k2⟩ := teL_get l i hi
    have hadd : ∀ j, (⟨g, 0, none⟩ : Addr).add j = ⟨g, 0 + j, none⟩ := by intro j; unfold Addr.add; split <;> simp_all
    have d0 := h3.cells (g := g) rfl (i * 3) _ k0
    have d1 := h3.cells (g := g) rfl (i * 3 + 1) _ k1
    have d2 := h3.cells (g := g) rfl (i * 3 + 2) _ k2
    rw [hadd] at d0 d1 d2
    exact ⟨g, 0, rfl, (Array.getElem?_eq_some_iff.1 hg).1, d0, d1, d2⟩
theorem To.below {base : Nat} {w w' : World} {v : Value} {l : List Te} (h : To base w v l) (hb : Below w.heap.size w w') : To base w' v l := by
  obtain ⟨h1, h3⟩ := h
  refine ⟨h1, h3.1, ?_⟩
  rcases h3.2 with h0 | ⟨g, cap', cur, k1, k2, k3, k4⟩
  · exact .inl h0
  · exact .inr ⟨g, cap', cur, k1, k2, (hb.block g (Array.getElem?_eq_some_iff.1 k3).1).trans k3, k4⟩
theorem To.lo {base : Nat} {w : World} {v : Value} {l : List Te} (h : To base w v l) {g : Nat} (hg : v.ownBlock = some g) : base ≤ g := (World.ownsRow.lt h.2 g hg).1
/-- 'append(both, a...)'. -/
theorem wpList_append_tes {w : World} {ops : Array Oper} {rest : List Oper} {o : Oper} {a : Act} {Q : Exit → Act → World → Prop}
    (hgd : o.guard = none) (s x : Operand) (ho : o.op = .call { callee := .builtin .append, args := #[s, x], argTypes := #[22, 22] })
    (base : Nat) (v : Value) (l : List Te) (hs : a.eval s = v) (hown : To base w v l) (pa : Option Addr) (pc n : Nat) (m : List Te) (hn : n = m.length) (hx : a.eval x = .slice pa n pc)
    (hp : Tz w pa pc m) (hlen : l.length + m.length ≤ 1000000) (hbase : base ≤ w.heap.size)
    (h : ∀ v' w', To base w' v' (l ++ m) → w.grownBy w' v.ownBlock → wpList Tryz.prog ops Q rest (a.put o.dst v') w') : wpList Tryz.prog ops Q (o :: rest) a w := by
  subst hn
  obtain ⟨i0, hi, hz0, hz1, hz2⟩ := info_parts info_te
  cases pa with
  | none =>
    obtain rfl := hp.2.2.2.1 rfl
    have hm : m = [] := List.length_eq_zero_iff.1 (Nat.le_zero.1 hp.1)
    subst hm
    exact wpList_append_own_none hgd s x 22 ho base 42 i0 3 Tryz.underlying22 hi v l.length (teL l) hs hown.2 hx (h v w (by simpa using hown) (World.grownBy.refl w _))
  | some ad =>
    refine wpList_append_own_at w hgd s x 22 ho base 42 i0 (.agg #[.int .i64 0, .int .i64 0, .int .i64 0]) 3 24 Tryz.underlying22 hi hz0 hz1 hz2 rfl (by decide) v l.length (teL l) hs hown.2 ad m.length pc (teL m) hx (teL_len m) ?_ (teL_one m) (by unfold maxLen; omega) (by omega) hbase ?_
    · intro j u hj
      have hjl : j < m.length * 3 := by
        rcases Nat.lt_or_ge j (m.length * 3) with h1 | h1
        · exact h1
        · rw [List.getElem?_eq_none (by rw [teL_len]; exact h1)] at hj; cases hj
      obtain ⟨b, off, e, _, c0, c1, c2⟩ := hp.2.2.2.2 (j / 3) (by omega)
      cases e
      obtain ⟨k0, k1, k2⟩ := teL_get m (j / 3) (by omega)
      have hadd : (⟨b, off, none⟩ : Addr).add j = ⟨b, off + j, none⟩ := by unfold Addr.add; split <;> simp_all
      rw [hadd]
      have h3 : j % 3 = 0 ∨ j % 3 = 1 ∨ j % 3 = 2 := by omega
      rcases h3 with h3 | h3 | h3
      · rw [show j / 3 * 3 = j by omega] at c0 k0
        rw [c0, ← hj, k0]
      · rw [show off + j / 3 * 3 + 1 = off + j by omega] at c1
        rw [show j / 3 * 3 + 1 = j by omega] at k1
        rw [c1, ← hj, k1]
      · rw [show off + j / 3 * 3 + 2 = off + j by omega] at c2
        rw [show j / 3 * 3 + 2 = j by omega] at k2
        rw [c2, ← hj, k2]
    · intro v' w' k1 k2 _ _
      refine h v' w' ⟨fun s hs => ?_, ?_⟩ k2
      · rcases List.mem_append.1 hs with hs | hs
        · exact hown.1 s hs
        · exact hp.2.2.1 s hs
      · rw [teL_append, List.length_append]
        exact k1

/-- A part of 0 makes all 0. -/
theorem alQ_zero {l : List Te} {cs : List Int} {j : Nat} (hj : j < l.length) (h : paQ (l.getD j Te.none) (cs.getD j 0) = 0) : alQ l cs = 0 := by
  have : ∀ k, j < k → alK l cs k = 0 := by
    intro k
    induction k with
    | zero => intro h1; omega
    | succ k ih =>
      intro h1
      rw [alK_succ]
      by_cases e : j = k
      · subst e
        rw [h, Rat.mul_zero]
      · rw [ih (by omega), Rat.zero_mul]
  exact this _ hj

/-- Numbers, cut. -/
theorem Ri.take {w : World} {a : Option Addr} {cap : Nat} {zs : List Int} (h : Ri w a cap zs) (n : Nat) : Ri w a cap (zs.take n) := by
  refine ⟨fun z hz => h.1 z (List.mem_of_mem_take hz), Nat.le_trans (by simp; omega) h.2.1, h.2.2.1, ?_⟩
  rcases h.2.2.2 with h4 | ⟨b, off, e, h5, h6⟩
  · exact .inl (by rw [h4]; simp)
  · refine .inr ⟨b, off, e, h5, fun i hi => ?_⟩
    have hi' : i < n ∧ i < zs.length := by simp at hi; omega
    rw [h6 i hi'.2]
    simp [List.getD, List.getElem?_take, hi'.1]
theorem Ri.drop {w : World} {b off cap : Nat} {zs : List Int} (h : Ri w (some ⟨b, off, none⟩) cap zs) (n : Nat) (hn : n ≤ zs.length) : Ri w (some ⟨b, off + n, none⟩) (cap - n) (zs.drop n) := by
  refine ⟨fun z hz => h.1 z (List.mem_of_mem_drop hz), ?_, Nat.le_trans (Nat.sub_le _ _) h.2.2.1, ?_⟩
  · have := h.2.1
    simp
    omega
  · rcases h.2.2.2 with h4 | ⟨b', off', e, h5, h6⟩
    · exact .inl (by rw [h4]; simp)
    · cases e
      refine .inr ⟨b, off + n, rfl, h5, fun i hi => ?_⟩
      have hi' : n + i < zs.length := by simp at hi; omega
      rw [Nat.add_assoc, h6 (n + i) hi']
      simp [List.getD]

end Go.Proofs.YtdhkpgndpgacbaaGreatDoor

namespace Go.Proofs.YtdhkpgndpgacbaaGreatDoor
open Go.RowKit Go.Maps
set_option linter.unusedSimpArgs false
set_option linter.unusedVariables false

/-- A tent that rises above 0. -/
def riB (t : Te) : Bool := decide (0 ≤ t.st) && (decide (t.st < t.pk) && (decide (t.pk < t.en) || (t.pk == 16384 && t.en == 16384)))

set_option maxHeartbeats 1000000 in
set_option maxRecDepth 100000 in
theorem rises_any (t : Te) (w : World) :
    Calls Tryz.prog 29 #[.agg #[.int .i64 t.st, .int .i64 t.pk, .int .i64 t.en]] w fun e w' => e = .returned (.bool (riB t)) ∧ Below w.heap.size w w' := by
  obtain ⟨st, pk, en⟩ := t
  simp only [riB]
  by_cases h1 : 0 ≤ st
  · have g1 : decide (0 ≤ st) = true := decide_eq_true h1
    rw [g1]
    by_cases h2 : st < pk
    · have g2 : decide (st < pk) = true := decide_eq_true h2
      rw [g2]
      by_cases h3 : pk < en
      · have g3 : decide (pk < en) = true := decide_eq_true h3
        rw [g3]
        go_enter Tryz.func29, Tryz.ntmps29
        go_wp2
        go_ret
        exact ⟨rt_bool (by simp), al1 _⟩
      · have g3 : decide (pk < en) = false := decide_eq_false h3
        rw [g3]
        by_cases h4 : pk = 16384
        · have g4 : (pk == 16384) = true := by simp [h4]
          rw [g4]
          clear h4
          go_enter Tryz.func29, Tryz.ntmps29
          go_wp2
          go_ret
          exact ⟨rt_bool (by simp), al1 _⟩
        · have g4 : (pk == 16384) = false := by simp [h4]
          rw [g4]
          clear h4
          go_enter Tryz.func29, Tryz.ntmps29
          go_wp2
          go_ret
          exact ⟨rt_bool (by simp), al1 _⟩
    · have g2 : decide (st < pk) = false := decide_eq_false h2
      rw [g2]
      go_enter Tryz.func29, Tryz.ntmps29
      go_wp2
      go_ret
      exact ⟨rt_bool (by simp), al1 _⟩
  · have g1 : decide (0 ≤ st) = false := decide_eq_false h1
    rw [g1]
    go_enter Tryz.func29, Tryz.ntmps29
    go_wp2
    go_ret
    exact ⟨rt_bool (by simp), al1 _⟩

set_option maxHeartbeats 1000000 in
set_option maxRecDepth 100000 in
theorem turned_any (t : Te) (w : World) (h1 : crd t.st = true) (h2 : crd t.pk = true) (h3 : crd t.en = true) :
    Calls Tryz.prog 30 #[.agg #[.int .i64 t.st, .int .i64 t.pk, .int .i64 t.en]] w fun e w' => e = .returned (.agg #[.int .i64 (-t.en), .int .i64 (-t.pk), .int .i64 (-t.st)]) ∧ Below w.heap.size w w' := by
  obtain ⟨st, pk, en⟩ := t
  rw [crdT] at h1 h2 h3
  dsimp only at *
  have k1 : IntKind.i64.wrap (-en) = -en := wrapi64 (by omega) (by omega)
  have k2 : IntKind.i64.wrap (-pk) = -pk := wrapi64 (by omega) (by omega)
  have k3 : IntKind.i64.wrap (-st) = -st := wrapi64 (by omega) (by omega)
  go_enter Tryz.func30, Tryz.ntmps30
  go_wp2
  exact bodyPost_ret (v := .agg #[.int .i64 (-en), .int .i64 (-pk), .int .i64 (-st)]) (by simp [results, Tryz.results30, go_sem]) rfl ⟨rfl, al2 _ _⟩

end Go.Proofs.YtdhkpgndpgacbaaGreatDoor

namespace Go.Proofs.YtdhkpgndpgacbaaGreatDoor
open Go.RowKit Go.Maps
set_option linter.unusedSimpArgs false
set_option linter.unusedVariables false

theorem riB_iff {t : Te} : riB t = true ↔ (0 ≤ t.st ∧ t.st < t.pk ∧ (t.pk < t.en ∨ (t.pk = 16384 ∧ t.en = 16384))) := by
  simp [riB]
/-- As the code asks it. -/
theorem tfB_neg {t : Te} (h1 : crd t.st = true) (h2 : crd t.pk = true) (h3 : crd t.en = true) (h : t.pk < 0) : riB ⟨-t.en, -t.pk, -t.st⟩ = tfB t := by
  rw [crdT] at h1 h2 h3
  rw [Bool.eq_iff_iff, riB_iff, tfB_iff]
  unfold TfT
  dsimp only
  omega
theorem tfB_pos {t : Te} (h1 : crd t.st = true) (h2 : crd t.pk = true) (h3 : crd t.en = true) (h : ¬ t.pk < 0) (hz : ¬ (t.st = 0 ∧ t.pk = 0 ∧ t.en = 0)) : riB t = tfB t := by
  rw [crdT] at h1 h2 h3
  rw [Bool.eq_iff_iff, riB_iff, tfB_iff]
  unfold TfT
  omega

set_option maxHeartbeats 2000000 in
set_option maxRecDepth 100000 in
theorem cformT_any (t : Te) (w : World) :
    Calls Tryz.prog 16 #[.agg #[.int .i64 t.st, .int .i64 t.pk, .int .i64 t.en]] w fun e w' => e = .returned (.bool (tfB t)) ∧ Below w.heap.size w w' := by
  obtain ⟨W, hW, X1, hbW⟩ : ∃ W, W = w.alloc (.cells #[.int .i64 t.st, .int .i64 t.pk, .int .i64 t.en] 42) ∧ Box 42 W w.heap.size (.int .i64 t.st) (.int .i64 t.pk) (.int .i64 t.en) ∧ Below w.heap.size w W := ⟨_, rfl, Box.new _ _ _ _ _, al1 _⟩
  cases c1 : crd t.st with
  | false =>
    have HF : Hid (tfB t = false) := tfB_no (fun h => by rw [crdT.2 h.1] at c1; cases c1)
    obtain ⟨st, pk, en⟩ := t
    dsimp only at *
    go_enter Tryz.func16, Tryz.ntmps16
    go_wp2_with fail
    refine (coord_any st _).mono ?_
    rintro e u1 ⟨rfl, rfl⟩
    rw [c1]
    go_wp2
    go_ret
    exact ⟨rt_bool HF.out.symm, hW ▸ hbW⟩
  | true =>
    cases c2 : crd t.pk with
    | false =>
      have HF : Hid (tfB t = false) := tfB_no (fun h => by rw [crdT.2 h.2.1] at c2; cases c2)
      obtain ⟨st, pk, en⟩ := t
      dsimp only at *
      go_enter Tryz.func16, Tryz.ntmps16
      go_wp2_with fail
      refine (coord_any st _).mono ?_
      rintro e u1 ⟨rfl, rfl⟩
      rw [c1]
      go_wp2_with fail
      refine (coord_any pk _).mono ?_
      rintro e u1 ⟨rfl, rfl⟩
      rw [c2]
      go_wp2
      go_ret
      exact ⟨rt_bool HF.out.symm, hW ▸ hbW⟩
    | true =>
      cases c3 : crd t.en with
      | false =>
        have HF : Hid (tfB t = false) := tfB_no (fun h => by rw [crdT.2 h.2.2.1] at c3; cases c3)
        obtain ⟨st, pk, en⟩ := t
        dsimp only at *
        go_enter Tryz.func16, Tryz.ntmps16
        go_wp2_with fail
        refine (coord_any st _).mono ?_
        rintro e u1 ⟨rfl, rfl⟩
        rw [c1]
        go_wp2_with fail
        refine (coord_any pk _).mono ?_
        rintro e u1 ⟨rfl, rfl⟩
        rw [c2]
        go_wp2_with fail
        refine (coord_any en _).mono ?_
        rintro e u1 ⟨rfl, rfl⟩
        rw [c3]
        go_wp2
        go_ret
        exact ⟨rt_bool HF.out.symm, hW ▸ hbW⟩
      | true =>
        by_cases hn : t.pk < 0
        · have HF : Hid (riB ⟨-t.en, -t.pk, -t.st⟩ = tfB t) := tfB_neg c1 c2 c3 hn
          have ht := fun U => turned_any t U c1 c2 c3
          have hr := fun U => rises_any ⟨-t.en, -t.pk, -t.st⟩ U
          obtain ⟨st, pk, en⟩ := t
          dsimp only at *
          go_enter Tryz.func16, Tryz.ntmps16
          go_wp2_with fail
          rw [← hW]
          clear hW
          refine (coord_any st _).mono ?_
          rintro e u1 ⟨rfl, rfl⟩
          rw [c1]
          obtain ⟨p0, p1, p2, _⟩ := X1.cells
          go_wp2_with fail
          refine (coord_any pk _).mono ?_
          rintro e u1 ⟨rfl, rfl⟩
          rw [c2]
          go_wp2_with fail
          refine (coord_any en _).mono ?_
          rintro e u1 ⟨rfl, rfl⟩
          rw [c3]
          clear c1 c2 c3
          go_wp2_with fail
          refine (ht _).mono ?_
          rintro e u1 ⟨rfl, hb1⟩
          replace hbW := hbW.trans (hb1.mono hbW.size)
          clear ht hb1 p0 p1 p2
          go_wp2_with fail
          refine (hr _).mono ?_
          rintro e u2 ⟨rfl, hb2⟩
          rw [HF.out]
          replace hbW := hbW.trans (hb2.mono hbW.size)
          clear hr hb2
          go_wp2
          go_ret
          exact ⟨rfl, hbW⟩
        · have HF : Hid (¬ (t.st = 0 ∧ t.pk = 0 ∧ t.en = 0) → riB t = tfB t) := tfB_pos c1 c2 c3 hn
          have HZ : Hid (t.st = 0 ∧ t.pk = 0 ∧ t.en = 0 → tfB t = true) := fun h => by
            rw [tfB_iff]
            unfold TfT
            omega
          have hr := fun U => rises_any t U
          obtain ⟨st, pk, en⟩ := t
          dsimp only at *
          go_enter Tryz.func16, Tryz.ntmps16
          go_wp2_with fail
          rw [← hW]
          clear hW
          refine (coord_any st _).mono ?_
          rintro e u1 ⟨rfl, rfl⟩
          rw [c1]
          obtain ⟨p0, p1, p2, _⟩ := X1.cells
          go_wp2_with fail
          refine (coord_any pk _).mono ?_
          rintro e u1 ⟨rfl, rfl⟩
          rw [c2]
          go_wp2_with fail
          refine (coord_any en _).mono ?_
          rintro e u1 ⟨rfl, rfl⟩
          rw [c3]
          clear c1 c2 c3
          by_cases s0 : st = 0
          · subst s0
            by_cases q0 : pk = 0
            · subst q0
              by_cases e0 : en = 0
              · subst e0
                go_wp2
                go_ret
                exact ⟨rt_bool (HZ.out (by simp)).symm, hbW⟩
              · go_wp2_with fail
                refine (hr _).mono ?_
                rintro e u2 ⟨rfl, hb2⟩
                rw [HF.out (by omega)]
                replace hbW := hbW.trans (hb2.mono hbW.size)
                clear hr hb2
                go_wp2
                go_ret
                exact ⟨rfl, hbW⟩
            · go_wp2_with fail
              refine (hr _).mono ?_
              rintro e u2 ⟨rfl, hb2⟩
              rw [HF.out (by omega)]
              replace hbW := hbW.trans (hb2.mono hbW.size)
              clear hr hb2
              go_wp2
              go_ret
              exact ⟨rfl, hbW⟩
          · go_wp2_with fail
            refine (hr _).mono ?_
            rintro e u2 ⟨rfl, hb2⟩
            rw [HF.out (by omega)]
            replace hbW := hbW.trans (hb2.mono hbW.size)
            clear hr hb2
            go_wp2
            go_ret
            exact ⟨rfl, hbW⟩

set_option maxHeartbeats 1000000 in
set_option maxRecDepth 100000 in
theorem coordOf_any (a : Option Addr) (cap : Nat) (cs : List Int) (k : Nat) (w : World) (h : Ri w a cap cs) (hk : k ≤ 1000000) :
    Calls Tryz.prog 21 #[.slice a cs.length cap, .int .i64 (k : Int)] w fun e w' => e = .returned (.int .i64 (cs.getD k 0)) ∧ Below w.heap.size w w' := by
  have k1 := h.lenB
  by_cases hkn : k < cs.length
  · obtain ⟨b, off, ea, hb, d0⟩ := h.at (Below.refl _ _) k hkn
    subst ea
    have g1 : (k : Int) < (cs.length : Int) := by omega
    generalize cs.getD k 0 = z at *
    clear h
    go_enter Tryz.func21, Tryz.ntmps21
    go_wp2
    go_ret
    exact ⟨rfl, Below.refl _ _⟩
  · have g1 : ¬ (k : Int) < (cs.length : Int) := by omega
    have HZ : Hid (cs.getD k 0 = 0) := by show _ = _; rw [List.getD_eq_getElem?_getD, List.getElem?_eq_none (by omega)]; rfl
    clear h
    go_enter Tryz.func21, Tryz.ntmps21
    go_wp2
    go_ret
    exact ⟨rt_int (by first | rfl | exact HZ.out.symm), Below.refl _ _⟩

end Go.Proofs.YtdhkpgndpgacbaaGreatDoor

namespace Go.Proofs.YtdhkpgndpgacbaaGreatDoor
open Go.RowKit Go.Maps
set_option linter.unusedSimpArgs false
set_option linter.unusedVariables false

theorem paQ_one {t : Te} {c : Int} (h1 : tfB t = true) (h2 : crd c = true) (h : t.pk = 0 ∨ c = t.pk) : ((1 : Int) : Rat) = paQ t c := by
  rw [paQ_yes h1 h2, if_pos h]
  rfl
theorem paQ_off {t : Te} {c : Int} (h1 : tfB t = true) (h2 : crd c = true) (h : ¬ (t.pk = 0 ∨ c = t.pk)) (h3 : c ≤ t.st ∨ t.en ≤ c) : ((0 : Int) : Rat) = paQ t c := by
  rw [paQ_yes h1 h2, if_neg h, if_pos h3]
  rfl
theorem paQ_up {t : Te} {c : Int} (h1 : tfB t = true) (h2 : crd c = true) (h : ¬ (t.pk = 0 ∨ c = t.pk)) (h3 : ¬ (c ≤ t.st ∨ t.en ≤ c)) (h4 : c < t.pk) : ((c - t.st : Int) : Rat) / ((t.pk - t.st : Int) : Rat) = paQ t c := by
  rw [paQ_yes h1 h2, if_neg h, if_neg h3, if_pos h4]
theorem paQ_down {t : Te} {c : Int} (h1 : tfB t = true) (h2 : crd c = true) (h : ¬ (t.pk = 0 ∨ c = t.pk)) (h3 : ¬ (c ≤ t.st ∨ t.en ≤ c)) (h4 : ¬ c < t.pk) : ((t.en - c : Int) : Rat) / ((t.en - t.pk : Int) : Rat) = paQ t c := by
  rw [paQ_yes h1 h2, if_neg h, if_neg h3, if_neg h4]

end Go.Proofs.YtdhkpgndpgacbaaGreatDoor

namespace Go.Proofs.YtdhkpgndpgacbaaGreatDoor
open Go.RowKit Go.Maps
set_option linter.unusedSimpArgs false
set_option linter.unusedVariables false

set_option maxHeartbeats 2000000 in
set_option maxRecDepth 100000 in
theorem cpart_any (t : Te) (c : Int) (w : World) (hc : I64 c) :
    Calls Tryz.prog 18 #[.agg #[.int .i64 t.st, .int .i64 t.pk, .int .i64 t.en], .int .i64 c] w fun e w' => ∃ v', e = .returned v' ∧ Fr w' v' 2 (paQ t c) ∧ Below w.heap.size w w' := by
  have hfo := fun U => cformT_any t U
  obtain ⟨W, hW, X1, B1, hbW⟩ := boxes2 42 33 w (.int .i64 t.st) (.int .i64 t.pk) (.int .i64 t.en) (.bool false) (.slice none 0 0) (.slice none 0 0)
  cases hf : tfB t with
  | false =>
    have HP : Hid (((0 : Int) : Rat) = paQ t c) := (paQ_no (fun h => by rw [hf] at h; cases h.1)).symm
    simp only [hf] at hfo
    clear hf
    obtain ⟨st, pk, en⟩ := t
    dsimp only at *
    go_enter Tryz.func18, Tryz.ntmps18
    go_wp2_with fail
    rw [← hW]
    clear hW
    refine (hfo _).mono ?_
    rintro e u1 ⟨rfl, hb1⟩
    replace X1 := X1.below hb1
    replace B1 := B1.below hb1
    replace hbW := hbW.trans (hb1.mono hbW.size)
    clear hb1 hfo
    obtain ⟨p0, p1, p2, _⟩ := X1.cells
    go_wp2_with fail
    refine (whole_any 0 _ (by decide) (by decide)).mono ?_
    rintro e u3 ⟨v3, rfl, hF3, hb3⟩
    replace B1 := B1.below hb3
    replace hbW := hbW.trans (hb3.mono hbW.size)
    rw [HP.out] at hF3
    clear hb3 X1
    obtain ⟨n3, xs, ys, ⟨a3, c3, b3, d3, rfl, hx3, hy3⟩, f1, f2, f3, f4⟩ := hF3
    obtain ⟨q1, q2, q3, q4, q5, q6⟩ := B1.cells
    have hs := B1.lt
    go_wp2
    refine ret3 (v := .agg #[.bool n3, .slice a3 xs.length c3, .slice b3 ys.length d3]) B1 rfl (fun U hU => by obtain ⟨r1, r2, r3, _⟩ := hU.cells; simp [results, Tryz.results18, go_sem, r1, r2, r3]) (fun U hU hK => ⟨_, rfl, ⟨_, _, _, ⟨_, _, _, _, rfl, hK _ _ _ hx3, hK _ _ _ hy3⟩, f1, f2, f3, f4⟩, hU _ _ hbW (by omega)⟩)
  | true =>
    have hbd := tfB_iff.1 hf
    unfold TfT at hbd
    simp only [hf] at hfo
    cases hcc : crd c with
    | false =>
      have HP : Hid (((0 : Int) : Rat) = paQ t c) := (paQ_no (fun h => by rw [hcc] at h; cases h.2)).symm
      clear hf hbd
      obtain ⟨st, pk, en⟩ := t
      dsimp only at *
      go_enter Tryz.func18, Tryz.ntmps18
      go_wp2_with fail
      rw [← hW]
      clear hW
      refine (hfo _).mono ?_
      rintro e u1 ⟨rfl, hb1⟩
      replace X1 := X1.below hb1
      replace B1 := B1.below hb1
      replace hbW := hbW.trans (hb1.mono hbW.size)
      clear hb1 hfo
      obtain ⟨p0, p1, p2, _⟩ := X1.cells
      go_wp2_with fail
      refine (coord_any c _).mono ?_
      rintro e u2 ⟨rfl, rfl⟩
      rw [hcc]
      clear hcc
      go_wp2_with fail
      refine (whole_any 0 _ (by decide) (by decide)).mono ?_
      rintro e u3 ⟨v3, rfl, hF3, hb3⟩
      replace B1 := B1.below hb3
      replace hbW := hbW.trans (hb3.mono hbW.size)
      rw [HP.out] at hF3
      clear hb3 X1
      obtain ⟨n3, xs, ys, ⟨a3, c3, b3, d3, rfl, hx3, hy3⟩, f1, f2, f3, f4⟩ := hF3
      obtain ⟨q1, q2, q3, q4, q5, q6⟩ := B1.cells
      have hs := B1.lt
      go_wp2
      refine ret3 (v := .agg #[.bool n3, .slice a3 xs.length c3, .slice b3 ys.length d3]) B1 rfl (fun U hU => by obtain ⟨r1, r2, r3, _⟩ := hU.cells; simp [results, Tryz.results18, go_sem, r1, r2, r3]) (fun U hU hK => ⟨_, rfl, ⟨_, _, _, ⟨_, _, _, _, rfl, hK _ _ _ hx3, hK _ _ _ hy3⟩, f1, f2, f3, f4⟩, hU _ _ hbW (by omega)⟩)
    | true =>
      have hcd := crdT.1 hcc
      by_cases h1 : t.pk = 0
      · have HP : Hid (((1 : Int) : Rat) = paQ t c) := paQ_one hf hcc (.inl h1)
        have g1 : (t.pk == 0) = true := by simp [h1]
        clear hf hbd hcd h1
        obtain ⟨st, pk, en⟩ := t
        dsimp only at *
        go_enter Tryz.func18, Tryz.ntmps18
        go_wp2_with fail
        rw [← hW]
        clear hW
        refine (hfo _).mono ?_
        rintro e u1 ⟨rfl, hb1⟩
        replace X1 := X1.below hb1
        replace B1 := B1.below hb1
        replace hbW := hbW.trans (hb1.mono hbW.size)
        clear hb1 hfo
        obtain ⟨p0, p1, p2, _⟩ := X1.cells
        go_wp2_with fail
        refine (coord_any c _).mono ?_
        rintro e u2 ⟨rfl, rfl⟩
        rw [hcc]
        clear hcc
        go_wp2_with fail
        refine (whole_any 1 _ (by decide) (by decide)).mono ?_
        rintro e u3 ⟨v3, rfl, hF3, hb3⟩
        replace B1 := B1.below hb3
        replace hbW := hbW.trans (hb3.mono hbW.size)
        rw [HP.out] at hF3
        clear hb3 X1
        obtain ⟨n3, xs, ys, ⟨a3, c3, b3, d3, rfl, hx3, hy3⟩, f1, f2, f3, f4⟩ := hF3
        obtain ⟨q1, q2, q3, q4, q5, q6⟩ := B1.cells
        have hs := B1.lt
        go_wp2
        refine ret3 (v := .agg #[.bool n3, .slice a3 xs.length c3, .slice b3 ys.length d3]) B1 rfl (fun U hU => by obtain ⟨r1, r2, r3, _⟩ := hU.cells; simp [results, Tryz.results18, go_sem, r1, r2, r3]) (fun U hU hK => ⟨_, rfl, ⟨_, _, _, ⟨_, _, _, _, rfl, hK _ _ _ hx3, hK _ _ _ hy3⟩, f1, f2, f3, f4⟩, hU _ _ hbW (by omega)⟩)
      · by_cases h2 : c = t.pk
        · have HP : Hid (((1 : Int) : Rat) = paQ t c) := paQ_one hf hcc (.inr h2)
          have g1 : (t.pk == 0) = false := by simp [h1]
          have g2 : (c == t.pk) = true := by simp [h2]
          clear h1 h2 hf hbd hcd
          obtain ⟨st, pk, en⟩ := t
          dsimp only at *
          go_enter Tryz.func18, Tryz.ntmps18
          go_wp2_with fail
          rw [← hW]
          clear hW
          refine (hfo _).mono ?_
          rintro e u1 ⟨rfl, hb1⟩
          replace X1 := X1.below hb1
          replace B1 := B1.below hb1
          replace hbW := hbW.trans (hb1.mono hbW.size)
          clear hb1 hfo
          obtain ⟨p0, p1, p2, _⟩ := X1.cells
          go_wp2_with fail
          refine (coord_any c _).mono ?_
          rintro e u2 ⟨rfl, rfl⟩
          rw [hcc]
          clear hcc
          go_wp2_with fail
          refine (whole_any 1 _ (by decide) (by decide)).mono ?_
          rintro e u3 ⟨v3, rfl, hF3, hb3⟩
          replace B1 := B1.below hb3
          replace hbW := hbW.trans (hb3.mono hbW.size)
          rw [HP.out] at hF3
          clear hb3 X1
          obtain ⟨n3, xs, ys, ⟨a3, c3, b3, d3, rfl, hx3, hy3⟩, f1, f2, f3, f4⟩ := hF3
          obtain ⟨q1, q2, q3, q4, q5, q6⟩ := B1.cells
          have hs := B1.lt
          go_wp2
          refine ret3 (v := .agg #[.bool n3, .slice a3 xs.length c3, .slice b3 ys.length d3]) B1 rfl (fun U hU => by obtain ⟨r1, r2, r3, _⟩ := hU.cells; simp [results, Tryz.results18, go_sem, r1, r2, r3]) (fun U hU hK => ⟨_, rfl, ⟨_, _, _, ⟨_, _, _, _, rfl, hK _ _ _ hx3, hK _ _ _ hy3⟩, f1, f2, f3, f4⟩, hU _ _ hbW (by omega)⟩)
        · have h12 : ¬ (t.pk = 0 ∨ c = t.pk) := by omega
          by_cases h3 : c ≤ t.st
          · have HP : Hid (((0 : Int) : Rat) = paQ t c) := paQ_off hf hcc h12 (.inl h3)
            have g1 : (t.pk == 0) = false := by simp [h1]
            have g2 : (c == t.pk) = false := by simp [h2]
            have g3 : decide (c ≤ t.st) = true := decide_eq_true h3
            clear h1 h2 hf hbd hcd h12
            obtain ⟨st, pk, en⟩ := t
            dsimp only at *
            go_enter Tryz.func18, Tryz.ntmps18
            go_wp2_with fail
            rw [← hW]
            clear hW
            refine (hfo _).mono ?_
            rintro e u1 ⟨rfl, hb1⟩
            replace X1 := X1.below hb1
            replace B1 := B1.below hb1
            replace hbW := hbW.trans (hb1.mono hbW.size)
            clear hb1 hfo
            obtain ⟨p0, p1, p2, _⟩ := X1.cells
            go_wp2_with fail
            refine (coord_any c _).mono ?_
            rintro e u2 ⟨rfl, rfl⟩
            rw [hcc]
            clear hcc
            go_wp2_with fail
            refine (whole_any 0 _ (by decide) (by decide)).mono ?_
            rintro e u3 ⟨v3, rfl, hF3, hb3⟩
            replace B1 := B1.below hb3
            replace hbW := hbW.trans (hb3.mono hbW.size)
            rw [HP.out] at hF3
            clear hb3 X1
            obtain ⟨n3, xs, ys, ⟨a3, c3, b3, d3, rfl, hx3, hy3⟩, f1, f2, f3, f4⟩ := hF3
            obtain ⟨q1, q2, q3, q4, q5, q6⟩ := B1.cells
            have hs := B1.lt
            go_wp2
            refine ret3 (v := .agg #[.bool n3, .slice a3 xs.length c3, .slice b3 ys.length d3]) B1 rfl (fun U hU => by obtain ⟨r1, r2, r3, _⟩ := hU.cells; simp [results, Tryz.results18, go_sem, r1, r2, r3]) (fun U hU hK => ⟨_, rfl, ⟨_, _, _, ⟨_, _, _, _, rfl, hK _ _ _ hx3, hK _ _ _ hy3⟩, f1, f2, f3, f4⟩, hU _ _ hbW (by omega)⟩)
          · by_cases h4 : t.en ≤ c
            · have HP : Hid (((0 : Int) : Rat) = paQ t c) := paQ_off hf hcc h12 (.inr h4)
              have g1 : (t.pk == 0) = false := by simp [h1]
              have g2 : (c == t.pk) = false := by simp [h2]
              have g3 : decide (c ≤ t.st) = false := decide_eq_false h3
              have g4 : decide (t.en ≤ c) = true := decide_eq_true h4
              clear h1 h2 hf hbd hcd h12
              obtain ⟨st, pk, en⟩ := t
              dsimp only at *
              go_enter Tryz.func18, Tryz.ntmps18
              go_wp2_with fail
              rw [← hW]
              clear hW
              refine (hfo _).mono ?_
              rintro e u1 ⟨rfl, hb1⟩
              replace X1 := X1.below hb1
              replace B1 := B1.below hb1
              replace hbW := hbW.trans (hb1.mono hbW.size)
              clear hb1 hfo
              obtain ⟨p0, p1, p2, _⟩ := X1.cells
              go_wp2_with fail
              refine (coord_any c _).mono ?_
              rintro e u2 ⟨rfl, rfl⟩
              rw [hcc]
              clear hcc
              go_wp2_with fail
              refine (whole_any 0 _ (by decide) (by decide)).mono ?_
              rintro e u3 ⟨v3, rfl, hF3, hb3⟩
              replace B1 := B1.below hb3
              replace hbW := hbW.trans (hb3.mono hbW.size)
              rw [HP.out] at hF3
              clear hb3 X1
              obtain ⟨n3, xs, ys, ⟨a3, c3, b3, d3, rfl, hx3, hy3⟩, f1, f2, f3, f4⟩ := hF3
              obtain ⟨q1, q2, q3, q4, q5, q6⟩ := B1.cells
              have hs := B1.lt
              go_wp2
              refine ret3 (v := .agg #[.bool n3, .slice a3 xs.length c3, .slice b3 ys.length d3]) B1 rfl (fun U hU => by obtain ⟨r1, r2, r3, _⟩ := hU.cells; simp [results, Tryz.results18, go_sem, r1, r2, r3]) (fun U hU hK => ⟨_, rfl, ⟨_, _, _, ⟨_, _, _, _, rfl, hK _ _ _ hx3, hK _ _ _ hy3⟩, f1, f2, f3, f4⟩, hU _ _ hbW (by omega)⟩)
            · have h34 : ¬ (c ≤ t.st ∨ t.en ≤ c) := by omega
              by_cases h5 : c < t.pk
              · have HP : Hid (((c - t.st : Int) : Rat) / ((t.pk - t.st : Int) : Rat) = paQ t c) := paQ_up hf hcc h12 h34 h5
                have g1 : (t.pk == 0) = false := by simp [h1]
                have g2 : (c == t.pk) = false := by simp [h2]
                have g3 : decide (c ≤ t.st) = false := decide_eq_false h3
                have g4 : decide (t.en ≤ c) = false := decide_eq_false h4
                clear hf h12 h34
                have k1 : IntKind.i64.wrap (c - t.st) = c - t.st := wrapi64 (by omega) (by omega)
                have k2 : IntKind.i64.wrap (t.pk - t.st) = t.pk - t.st := wrapi64 (by omega) (by omega)
                have hm := fun U => make_any (c - t.st) (t.pk - t.st) U (by omega) (by omega) (by omega) (by omega)
                clear h1 h2 hbd hcd
                obtain ⟨st, pk, en⟩ := t
                dsimp only at *
                go_enter Tryz.func18, Tryz.ntmps18
                go_wp2_with fail
                rw [← hW]
                clear hW
                refine (hfo _).mono ?_
                rintro e u1 ⟨rfl, hb1⟩
                replace X1 := X1.below hb1
                replace B1 := B1.below hb1
                replace hbW := hbW.trans (hb1.mono hbW.size)
                clear hb1 hfo
                obtain ⟨p0, p1, p2, _⟩ := X1.cells
                go_wp2_with fail
                refine (coord_any c _).mono ?_
                rintro e u2 ⟨rfl, rfl⟩
                rw [hcc]
                clear hcc
                go_wp2_with fail
                refine (hm _).mono ?_
                rintro e u3 ⟨v3, rfl, hF3, hb3⟩
                replace B1 := B1.below hb3
                replace hbW := hbW.trans (hb3.mono hbW.size)
                rw [HP.out] at hF3
                clear hb3 X1
                obtain ⟨n3, xs, ys, ⟨a3, c3, b3, d3, rfl, hx3, hy3⟩, f1, f2, f3, f4⟩ := hF3
                obtain ⟨q1, q2, q3, q4, q5, q6⟩ := B1.cells
                have hs := B1.lt
                go_wp2
                refine ret3 (v := .agg #[.bool n3, .slice a3 xs.length c3, .slice b3 ys.length d3]) B1 rfl (fun U hU => by obtain ⟨r1, r2, r3, _⟩ := hU.cells; simp [results, Tryz.results18, go_sem, r1, r2, r3]) (fun U hU hK => ⟨_, rfl, ⟨_, _, _, ⟨_, _, _, _, rfl, hK _ _ _ hx3, hK _ _ _ hy3⟩, f1, f2, f3, f4⟩, hU _ _ hbW (by omega)⟩)
              · have HP : Hid (((t.en - c : Int) : Rat) / ((t.en - t.pk : Int) : Rat) = paQ t c) := paQ_down hf hcc h12 h34 h5
                have g1 : (t.pk == 0) = false := by simp [h1]
                have g2 : (c == t.pk) = false := by simp [h2]
                have g3 : decide (c ≤ t.st) = false := decide_eq_false h3
                have g4 : decide (t.en ≤ c) = false := decide_eq_false h4
                clear hf h12 h34
                have k1 : IntKind.i64.wrap (t.en - c) = t.en - c := wrapi64 (by omega) (by omega)
                have k2 : IntKind.i64.wrap (t.en - t.pk) = t.en - t.pk := wrapi64 (by omega) (by omega)
                have hm := fun U => make_any (t.en - c) (t.en - t.pk) U (by omega) (by omega) (by omega) (by omega)
                clear h1 h2 hbd hcd
                obtain ⟨st, pk, en⟩ := t
                dsimp only at *
                go_enter Tryz.func18, Tryz.ntmps18
                go_wp2_with fail
                rw [← hW]
                clear hW
                refine (hfo _).mono ?_
                rintro e u1 ⟨rfl, hb1⟩
                replace X1 := X1.below hb1
                replace B1 := B1.below hb1
                replace hbW := hbW.trans (hb1.mono hbW.size)
                clear hb1 hfo
                obtain ⟨p0, p1, p2, _⟩ := X1.cells
                go_wp2_with fail
                refine (coord_any c _).mono ?_
                rintro e u2 ⟨rfl, rfl⟩
                rw [hcc]
                clear hcc
                go_wp2_with fail
                refine (hm _).mono ?_
                rintro e u3 ⟨v3, rfl, hF3, hb3⟩
                replace B1 := B1.below hb3
                replace hbW := hbW.trans (hb3.mono hbW.size)
                rw [HP.out] at hF3
                clear hb3 X1
                obtain ⟨n3, xs, ys, ⟨a3, c3, b3, d3, rfl, hx3, hy3⟩, f1, f2, f3, f4⟩ := hF3
                obtain ⟨q1, q2, q3, q4, q5, q6⟩ := B1.cells
                have hs := B1.lt
                go_wp2
                refine ret3 (v := .agg #[.bool n3, .slice a3 xs.length c3, .slice b3 ys.length d3]) B1 rfl (fun U hU => by obtain ⟨r1, r2, r3, _⟩ := hU.cells; simp [results, Tryz.results18, go_sem, r1, r2, r3]) (fun U hU hK => ⟨_, rfl, ⟨_, _, _, ⟨_, _, _, _, rfl, hK _ _ _ hx3, hK _ _ _ hy3⟩, f1, f2, f3, f4⟩, hU _ _ hbW (by omega)⟩)

end Go.Proofs.YtdhkpgndpgacbaaGreatDoor
