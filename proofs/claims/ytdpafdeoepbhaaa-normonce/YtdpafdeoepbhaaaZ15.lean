/-
  A row of axes grows by one; foundryref06: Read, Same: the walks.
  Plain coordinates and user values: parts of the way, and back (plain mathematics).
  Rows of ints: read, and of the call's own.
  Axes and bends that fit, the coordinates of a place, exact and rounded: what follows of them (plain mathematics).
-/
import Derived.Test.YtdpafdeoepbhaaaZ14
import Derived.Test.YtdpafdeoepbhaaaZ12
import Derived.Test.YtdpafdeoepbhaaaZ8
import Derived.Test.YtdpafdeoepbhaaaZ9
namespace Go.Proofs.Ytdpafdeoepbhaaa
open Go.RowKit Go.Maps
set_option linter.unusedSimpArgs false
set_option linter.unusedVariables false

theorem info_ax : (Try.prog.info? 33).map (fun i => (i.zero, i.size, i.bytes)) = some (some (.agg #[.string ⟨#[]⟩, .int .i64 0, .int .i64 0, .int .i64 0]), 4, 40) := by kernel_rfl

/-- The cells of axes. -/
def axL : List Ax → List Value
  | [] => []
  | t :: l => [.string t.tx, .int .i64 t.lo, .int .i64 t.us, .int .i64 t.hi] ++ axL l
theorem axL_append (l m : List Ax) : axL (l ++ m) = axL l ++ axL m := by
  induction l with
  | nil => rfl
  | cons t l ih => rw [List.cons_append, axL, axL, ih, List.append_assoc]
theorem axL_len (l : List Ax) : (axL l).length = l.length * 4 := by
  induction l with
  | nil => rfl
  | cons t l ih => rw [axL, List.length_append, ih]; simp; omega
theorem axL_get : ∀ (l : List Ax) (i : Nat), i < l.length → (axL l)[i * 4]? = some (.string (l.getD i Ax.none).tx) ∧ (axL l)[i * 4 + 1]? = some (.int .i64 (l.getD i Ax.none).lo) ∧ (axL l)[i * 4 + 2]? = some (.int .i64 (l.getD i Ax.none).us) ∧ (axL l)[i * 4 + 3]? = some (.int .i64 (l.getD i Ax.none).hi) := by
  intro l
  induction l with
  | nil => intro i hi; simp at hi
  | cons t l ih =>
    intro i hi
    cases i with
    | zero => simp [axL, List.getD]
    | succ i =>
      have := ih i (by simpa using hi)
      rw [axL]
      simp only [show (i + 1) * 4 = i * 4 + 4 by omega, List.getD_cons_succ]
      simp only [List.cons_append, List.nil_append, show i * 4 + 4 + 1 = i * 4 + 1 + 4 by omega, show i * 4 + 4 + 2 = i * 4 + 2 + 4 by omega, show i * 4 + 4 + 3 = i * 4 + 3 + 4 by omega]
      simpa using this
/-- A row of axes of the call's own. -/
def Ao (base : Nat) (w : World) (v : Value) (l : List Ax) : Prop := (∀ t ∈ l, Axw t) ∧ w.ownsRow base 33 4 v l.length (axL l)
theorem Ao.nil (base : Nat) (w : World) : Ao base w (.slice none 0 0) [] := ⟨(fun t ht => by cases ht), World.ownsRow_nil w base _ 4⟩
theorem Ao.slice {base : Nat} {w : World} {v : Value} {l : List Ax} (h : Ao base w v l) : ∃ a cap, v = .slice a l.length cap ∧ As w a cap l := by
  obtain ⟨h1, h3⟩ := h
  rcases h3.2 with ⟨rfl, h0⟩ | ⟨g, cap, cur, rfl, hb, hg, hc1, hc2, hc3, ht⟩
  · have : l = [] := List.length_eq_zero_iff.1 h0
    subst this
    exact ⟨none, 0, rfl, As.nil _ _ _ (Nat.zero_le _)⟩
  · refine ⟨_, cap, rfl, hc1, hc2, h1, fun i hi => ?_⟩
    obtain ⟨k0, k1, k2, k3⟩ := axL_get l i hi
    have hadd : ∀ j, (⟨g, 0, none⟩ : Addr).add j = ⟨g, 0 + j, none⟩ := by intro j; unfold Addr.add; split <;> simp_all
    have d0 := h3.cells (g := g) rfl (i * 4) _ k0
    have d1 := h3.cells (g := g) rfl (i * 4 + 1) _ k1
    have d2 := h3.cells (g := g) rfl (i * 4 + 2) _ k2
    have d3 := h3.cells (g := g) rfl (i * 4 + 3) _ k3
    rw [hadd] at d0 d1 d2 d3
    exact ⟨g, 0, rfl, (Array.getElem?_eq_some_iff.1 hg).1, d0, d1, d2, d3⟩
theorem Ao.below {base : Nat} {w w' : World} {v : Value} {l : List Ax} (h : Ao base w v l) (hb : Below w.heap.size w w') : Ao base w' v l := by
  obtain ⟨h1, h3⟩ := h
  refine ⟨h1, h3.1, ?_⟩
  rcases h3.2 with h0 | ⟨g, cap', cur, k1, k2, k3, k4⟩
  · exact .inl h0
  · exact .inr ⟨g, cap', cur, k1, k2, (hb.block g (Array.getElem?_eq_some_iff.1 k3).1).trans k3, k4⟩
theorem Ao.lo {base : Nat} {w : World} {v : Value} {l : List Ax} (h : Ao base w v l) {g : Nat} (hg : v.ownBlock = some g) : base ≤ g := (World.ownsRow.lt h.2 g hg).1
/-- 'append(l, a)': a is laid in a block of its own first. -/
theorem wpList_append_ax {w : World} {ops : Array Oper} {rest : List Oper} {o : Oper} {a : Act} {Q : Exit → Act → World → Prop}
    (hgd : o.guard = none) (s x : Operand) (ho : o.op = .call { callee := .builtin .append, args := #[s, x], argTypes := #[22, 22] })
    (base : Nat) (v : Value) (l : List Ax) (hs : a.eval s = v) (hown : Ao base w v l) (g : Nat) (t : Ax) (hx : a.eval x = .slice (some ⟨g, 0, none⟩) 1 1)
    (c0 : w.cell? ⟨g, 0, none⟩ = some (.string t.tx)) (c1 : w.cell? ⟨g, 1, none⟩ = some (.int .i64 t.lo)) (c2 : w.cell? ⟨g, 2, none⟩ = some (.int .i64 t.us)) (c3 : w.cell? ⟨g, 3, none⟩ = some (.int .i64 t.hi))
    (ht : Axw t) (hlen : l.length + 1 ≤ 1000000) (hbase : base ≤ w.heap.size)
    (h : ∀ v' w', Ao base w' v' (l ++ [t]) → w.grownBy w' v.ownBlock → wpList Try.prog ops Q rest (a.put o.dst v') w') : wpList Try.prog ops Q (o :: rest) a w := by
  obtain ⟨i0, hi, hz0, hz1, hz2⟩ := info_parts info_ax
  refine wpList_append_own_at w hgd s x 22 ho base 33 i0 (.agg #[.string ⟨#[]⟩, .int .i64 0, .int .i64 0, .int .i64 0]) 4 40 Try.underlying22 hi hz0 hz1 hz2 rfl (by decide) v l.length (axL l) hs hown.2 ⟨g, 0, none⟩ 1 1 [.string t.tx, .int .i64 t.lo, .int .i64 t.us, .int .i64 t.hi] hx rfl ?_ ?_ (by unfold maxLen; omega) (by omega) hbase ?_
  · intro j u hj
    match j, hj with
    | 0, hj => simp at hj; subst hj; simpa [Addr.add] using c0
    | 1, hj => simp at hj; subst hj; simpa [Addr.add] using c1
    | 2, hj => simp at hj; subst hj; simpa [Addr.add] using c2
    | 3, hj => simp at hj; subst hj; simpa [Addr.add] using c3
  · intro u hu
    simp at hu
    rcases hu with rfl | rfl | rfl | rfl <;> rfl
  · intro v' w' k1 k2 _ _
    refine h v' w' ⟨fun s hs => ?_, ?_⟩ k2
    · rcases List.mem_append.1 hs with hs | hs
      · exact hown.1 s hs
      · rw [List.mem_singleton.1 hs]; exact ht
    · rw [axL_append, List.length_append]
      exact k1

end Go.Proofs.Ytdpafdeoepbhaaa

namespace Go.Proofs.Ytdpafdeoepbhaaa
set_option linter.unusedSimpArgs false
set_option linter.unusedVariables false

/-- A value's part of the way, of an axis from lo over us to hi. -/
def sdQ (lo us hi c : Int) : Rat := if c < us then ((c - us : Int) : Rat) / ((us - lo : Int) : Rat) else ((c - us : Int) : Rat) / ((hi - us : Int) : Rat)
theorem sdQ_low {lo us hi c : Int} (h : c < us) (h1 : lo ≤ c) : ((-1 : Int) : Rat) ≤ sdQ lo us hi c ∧ sdQ lo us hi c < ((0 : Int) : Rat) := by
  rw [sdQ, if_pos h]
  refine ⟨ri_le_div (by omega) (by omega), ?_⟩
  rw [Rat.div_lt_iff (ri_pos (by omega))]
  have : ((c - us : Int) : Rat) < ((0 : Int) : Rat) := Rat.intCast_lt_intCast.2 (by omega)
  simpa using this
theorem sdQ_high {lo us hi c : Int} (h : us ≤ c) (h1 : c ≤ hi) : ((0 : Int) : Rat) ≤ sdQ lo us hi c ∧ sdQ lo us hi c ≤ ((1 : Int) : Rat) := by
  rw [sdQ, if_neg (by omega)]
  by_cases hw : us = hi
  · have : c = us := by omega
    subst this
    subst hw
    simp [Rat.div_def]
    decide
  · exact ⟨ri_le_div (by omega) (by omega), ri_div_le (c := 1) (by omega) (by omega) rfl⟩
theorem sdQ_in {lo us hi c : Int} (h1 : lo ≤ c) (h2 : c ≤ hi) : ((-1 : Int) : Rat) ≤ sdQ lo us hi c ∧ sdQ lo us hi c ≤ ((1 : Int) : Rat) := by
  by_cases h : c < us
  · have := sdQ_low (hi := hi) h h1
    have e : ((0 : Int) : Rat) ≤ ((1 : Int) : Rat) := ri_le (by decide)
    grind
  · have := sdQ_high (lo := lo) (show us ≤ c by omega) h2
    have e : ((-1 : Int) : Rat) ≤ ((0 : Int) : Rat) := ri_le (by decide)
    grind
theorem sdQ_mono {lo us hi c d : Int} (h1 : lo ≤ c) (h2 : d ≤ hi) (h : c ≤ d) : sdQ lo us hi c ≤ sdQ lo us hi d := by
  by_cases hc : c < us
  · by_cases hd : d < us
    · rw [sdQ, sdQ, if_pos hc, if_pos hd]
      exact ri_div_mono (by omega) (by omega)
    · have a1 := sdQ_low (hi := hi) hc h1
      have a2 := sdQ_high (lo := lo) (show us ≤ d by omega) h2
      grind
  · rw [sdQ, sdQ, if_neg hc, if_neg (by omega)]
    by_cases hw : us = hi
    · have e1 : c = us := by omega
      have e2 : d = us := by omega
      rw [e1, e2]
      exact Rat.le_refl
    · exact ri_div_mono (by omega) (by omega)
theorem sdQ_us {lo us hi : Int} : sdQ lo us hi us = 0 := by
  rw [sdQ, if_neg (by omega), Int.sub_self]
  simp [Rat.div_def]
theorem sdQ_lo {lo us hi : Int} (h : lo < us) : sdQ lo us hi lo = ((-1 : Int) : Rat) := by
  rw [sdQ, if_pos h, show lo - us = -(us - lo) by omega]
  have := ri_self (b := us - lo) (by omega)
  rw [Rat.intCast_neg, Rat.div_def, Rat.neg_mul, ← Rat.div_def, this]
  rfl
theorem sdQ_hi {lo us hi : Int} (h : us < hi) : sdQ lo us hi hi = ((1 : Int) : Rat) := by
  rw [sdQ, if_neg (by omega)]
  exact ri_self (b := hi - us) (by omega)

/-- How wide the side is on which a fraction lies. -/
def wdA (lo us hi : Int) (q : Rat) : Int := if q < 0 then us - lo else hi - us
theorem undo_sdQ {lo us hi c : Int} (h1 : lo ≤ c) (h2 : c ≤ hi) : ((us : Int) : Rat) + clQ (sdQ lo us hi c) * ((wdA lo us hi (sdQ lo us hi c) : Int) : Rat) = ((c : Int) : Rat) := by
  have hin := sdQ_in (us := us) h1 h2
  rw [clQ_in hin.1 hin.2]
  have key : sdQ lo us hi c * ((wdA lo us hi (sdQ lo us hi c) : Int) : Rat) = ((c - us : Int) : Rat) := by
    by_cases h : c < us
    · have a1 := (sdQ_low (hi := hi) h h1).2
      have a2 : sdQ lo us hi c < 0 := by simpa using a1
      rw [wdA, if_pos a2, sdQ, if_pos h, Rat.div_mul_cancel (by have := ri_pos (b := us - lo) (by omega); grind)]
    · have a1 := (sdQ_high (lo := lo) (show us ≤ c by omega) h2).1
      have a2 : ¬ sdQ lo us hi c < 0 := by have : (0 : Rat) ≤ sdQ lo us hi c := by simpa using a1
                                           exact Rat.not_lt.2 this
      rw [wdA, if_neg a2, sdQ, if_neg h]
      by_cases hw : us = hi
      · have e1 : c = us := by omega
        rw [e1]
        simp [Rat.div_def]
      · rw [Rat.div_mul_cancel (by have := ri_pos (b := hi - us) (by omega); grind)]
  rw [key, Rat.intCast_sub]
  grind

theorem clp_in {u a b : Int} (h : a ≤ b) : a ≤ clp u a b ∧ clp u a b ≤ b := by
  unfold clp
  repeat' split
  all_goals omega
theorem clp_mono {u v a b : Int} (h : u ≤ v) : clp u a b ≤ clp v a b := by
  unfold clp
  repeat' split
  all_goals omega
theorem clp_self {u a b : Int} (h1 : a ≤ u) (h2 : u ≤ b) : clp u a b = u := by
  unfold clp
  repeat' split
  all_goals omega
/-- A value's plain coordinate; a coordinate's user value. -/
def plQ (t : Ax) (u : Int) : Rat := if onA t then sdQ t.lo t.us t.hi (clp u t.lo t.hi) else 0
def usQ (t : Ax) (q : Rat) : Rat := if onA t then ((t.us : Int) : Rat) + clQ q * ((wdA t.lo t.us t.hi q : Int) : Rat) else 0

end Go.Proofs.Ytdpafdeoepbhaaa

namespace Go.Proofs.Ytdpafdeoepbhaaa
open Go.RowKit Go.Maps
set_option linter.unusedSimpArgs false
set_option linter.unusedVariables false

/-- Ints that are read. -/
def Ri (w : World) (a : Option Addr) (cap : Nat) (zs : List Int) : Prop :=
  (∀ z ∈ zs, I64 z) ∧ zs.length ≤ cap ∧ cap ≤ maxLen ∧
  (zs = [] ∨ ∃ b off, a = some ⟨b, off, none⟩ ∧ b < w.heap.size ∧ ∀ i, i < zs.length → w.cell? ⟨b, off + i, none⟩ = some (.int .i64 (zs.getD i 0)))
theorem Ri.at {w wr : World} {a : Option Addr} {cap : Nat} {zs : List Int} (h : Ri w a cap zs) (hb : Below w.heap.size w wr) (k : Nat) (hk : k < zs.length) :
    ∃ b off, a = some ⟨b, off, none⟩ ∧ b < w.heap.size ∧ wr.cell? ⟨b, off + k, none⟩ = some (.int .i64 (zs.getD k 0)) := by
  rcases h.2.2.2 with rfl | ⟨b, off, h1, h2, h3⟩
  · simp at hk
  · exact ⟨b, off, h1, h2, (hb.cell (p := ⟨b, off + k, none⟩) h2).trans (h3 k hk)⟩
theorem Ri.below {w w' : World} {a : Option Addr} {cap : Nat} {zs : List Int} (h : Ri w a cap zs) (hb : Below w.heap.size w w') : Ri w' a cap zs := by
  obtain ⟨h1, h2, h3, h4⟩ := h
  refine ⟨h1, h2, h3, ?_⟩
  rcases h4 with h4 | ⟨b, off, e, h5, h6⟩
  · exact .inl h4
  · exact .inr ⟨b, off, e, Nat.lt_of_lt_of_le h5 hb.size, fun i hi => (hb.cell (p := ⟨b, off + i, none⟩) h5).trans (h6 i hi)⟩
theorem Ri.nil (w : World) (a : Option Addr) (cap : Nat) (h : cap ≤ maxLen) : Ri w a cap [] := ⟨(fun z hz => by cases hz), Nat.zero_le _, h, .inl rfl⟩
theorem Ri.i64 {w : World} {a : Option Addr} {cap : Nat} {zs : List Int} (h : Ri w a cap zs) {k : Nat} (hk : k < zs.length) : I64 (zs.getD k 0) := by
  refine h.1 _ ?_
  rw [List.getD_eq_getElem?_getD, List.getElem?_eq_getElem hk]
  exact List.getElem_mem hk

theorem infoA_i64 : (Try.prog.info? 3).map (fun i => (i.zero, i.size, i.bytes)) = some (some (.int .i64 0), 1, 8) := by kernel_rfl
/-- A row of ints of the call's own. -/
def Io (base : Nat) (w : World) (v : Value) (zs : List Int) : Prop := (∀ z ∈ zs, I64 z) ∧ w.ownsRow base 3 1 v zs.length (zs.map (Value.int .i64))
theorem Io.nil (base : Nat) (w : World) : Io base w (.slice none 0 0) [] := ⟨(fun t ht => by cases ht), World.ownsRow_nil w base _ 1⟩
theorem Io.slice {base : Nat} {w : World} {v : Value} {zs : List Int} (h : Io base w v zs) : ∃ a cap, v = .slice a zs.length cap ∧ Ri w a cap zs := by
  obtain ⟨h1, h3⟩ := h
  rcases h3.2 with ⟨rfl, h0⟩ | ⟨g, cap, cur, rfl, hb, hg, hc1, hc2, hc3, ht⟩
  · have : zs = [] := List.length_eq_zero_iff.1 h0
    subst this
    exact ⟨none, 0, rfl, Ri.nil _ _ _ (Nat.zero_le _)⟩
  · refine ⟨_, cap, rfl, h1, hc1, hc2, .inr ⟨g, 0, rfl, (Array.getElem?_eq_some_iff.1 hg).1, fun i hi => ?_⟩⟩
    have := h3.cells (g := g) rfl i (.int .i64 (zs.getD i 0)) (by simp [List.getD, hi])
    have hadd : (⟨g, 0, none⟩ : Addr).add i = ⟨g, 0 + i, none⟩ := by unfold Addr.add; split <;> simp_all
    rw [hadd] at this
    exact this
theorem Io.below {base : Nat} {w w' : World} {v : Value} {zs : List Int} (h : Io base w v zs) (hb : Below w.heap.size w w') : Io base w' v zs := by
  obtain ⟨h1, h3⟩ := h
  refine ⟨h1, h3.1, ?_⟩
  rcases h3.2 with h0 | ⟨g, cap', cur, k1, k2, k3, k4⟩
  · exact .inl h0
  · exact .inr ⟨g, cap', cur, k1, k2, (hb.block g (Array.getElem?_eq_some_iff.1 k3).1).trans k3, k4⟩
theorem Io.lo {base : Nat} {w : World} {v : Value} {zs : List Int} (h : Io base w v zs) {g : Nat} (hg : v.ownBlock = some g) : base ≤ g := (World.ownsRow.lt h.2 g hg).1
/-- 'append(out, x)': x is laid in a block of its own first. -/
theorem wpList_append_int {w : World} {ops : Array Oper} {rest : List Oper} {o : Oper} {a : Act} {Q : Exit → Act → World → Prop}
    (hgd : o.guard = none) (s x : Operand) (ho : o.op = .call { callee := .builtin .append, args := #[s, x], argTypes := #[27, 27] })
    (base : Nat) (v : Value) (zs : List Int) (hs : a.eval s = v) (hown : Io base w v zs) (g : Nat) (z : Int) (hx : a.eval x = .slice (some ⟨g, 0, none⟩) 1 1)
    (c0 : w.cell? ⟨g, 0, none⟩ = some (.int .i64 z)) (hz : I64 z) (hlen : zs.length + 1 ≤ 1000000) (hbase : base ≤ w.heap.size)
    (h : ∀ v' w', Io base w' v' (zs ++ [z]) → w.grownBy w' v.ownBlock → wpList Try.prog ops Q rest (a.put o.dst v') w') : wpList Try.prog ops Q (o :: rest) a w := by
  obtain ⟨i0, hi, hz0, hz1, hz2⟩ := info_parts infoA_i64
  refine wpList_append_own_at w hgd s x 27 ho base 3 i0 (.int .i64 0) 1 8 Try.underlying27 hi hz0 hz1 hz2 rfl (by decide) v zs.length (zs.map (Value.int .i64)) hs hown.2 ⟨g, 0, none⟩ 1 1 [.int .i64 z] hx rfl ?_ ?_ (by unfold maxLen; omega) (by omega) hbase ?_
  · intro j u hj
    match j, hj with
    | 0, hj => simp at hj; subst hj; simpa [Addr.add] using c0
  · intro u hu
    simp at hu
    subst hu
    rfl
  · intro v' w' k1 k2 _ _
    refine h v' w' ⟨fun s hs => ?_, ?_⟩ k2
    · rcases List.mem_append.1 hs with hs | hs
      · exact hown.1 s hs
      · rw [List.mem_singleton.1 hs]; exact hz
    · rw [List.map_append, List.length_append]
      exact k1

/-- A place, clamped: the first k values. -/
def clV (l : List Ax) (ps : List Int) (i : Nat) : Int := if i < ps.length then clp (ps.getD i 0) (l.getD i Ax.none).lo (l.getD i Ax.none).hi else (l.getD i Ax.none).us
def clK (l : List Ax) (ps : List Int) (k : Nat) : List Int := (List.range k).map (clV l ps)
theorem clK_len (l : List Ax) (ps : List Int) (k : Nat) : (clK l ps k).length = k := by simp [clK]
theorem clK_succ (l : List Ax) (ps : List Int) (k : Nat) : clK l ps (k + 1) = clK l ps k ++ [clV l ps k] := by
  rw [clK, List.range_succ, List.map_append]
  rfl
theorem clp_i64 {n a b : Int} (h1 : I64 n) (h2 : I64 a) (h3 : I64 b) : I64 (clp n a b) := by
  unfold clp
  repeat' split
  all_goals assumption

end Go.Proofs.Ytdpafdeoepbhaaa

namespace Go.Proofs.Ytdpafdeoepbhaaa
set_option linter.unusedSimpArgs false
set_option linter.unusedVariables false

theorem getM_out {m : List (List Pr)} {k : Nat} (hk : m.length ≤ k) : m.getD k [] = [] := by simp [List.getD, hk]
theorem getM_mem {m : List (List Pr)} {k : Nat} (hk : k < m.length) : m.getD k [] ∈ m := by
  rw [List.getD_eq_getElem?_getD, List.getElem?_eq_getElem hk]
  exact List.getElem_mem hk

/-- Whether axes and bends fit. -/
def fiB (l : List Ax) (m : List (List Pr)) : Bool := frA l && ((decide (m.length = 0) || decide (m.length = l.length)) && m.all frP)
theorem fiB_iff {l : List Ax} {m : List (List Pr)} : fiB l m = true ↔ frA l = true ∧ (m.length = 0 ∨ m.length = l.length) ∧ ∀ j, j < m.length → frP (m.getD j []) = true := by
  unfold fiB
  rw [Bool.and_eq_true, Bool.and_eq_true, Bool.or_eq_true, decide_eq_true_iff, decide_eq_true_iff, List.all_eq_true]
  constructor
  · rintro ⟨h1, h2, h3⟩
    exact ⟨h1, h2, fun j hj => h3 _ (getM_mem hj)⟩
  · rintro ⟨h1, h2, h3⟩
    refine ⟨h1, h2, fun x hx => ?_⟩
    obtain ⟨j, hj, e⟩ := List.getElem_of_mem hx
    have := h3 j hj
    rw [List.getD_eq_getElem?_getD, List.getElem?_eq_getElem hj] at this
    rw [← e]
    exact this
theorem fiB_no {l : List Ax} {m : List (List Pr)} (h : ¬ (frA l = true ∧ (m.length = 0 ∨ m.length = l.length) ∧ ∀ j, j < m.length → frP (m.getD j []) = true)) : fiB l m = false := by
  rw [Bool.eq_false_iff]
  exact fun e => h (fiB_iff.1 e)
theorem fiB_bend {l : List Ax} {m : List (List Pr)} (h : fiB l m = true) (k : Nat) : frP (m.getD k []) = true := by
  by_cases hk : k < m.length
  · exact (fiB_iff.1 h).2.2 k hk
  · rw [getM_out (by omega)]
    rfl
theorem fiB_axis {l : List Ax} {m : List (List Pr)} (h : fiB l m = true) {k : Nat} (hk : k < l.length) : onA (l.getD k Ax.none) = true := ((FrA.iff.1 (frA_iff.1 (fiB_iff.1 h).1)).2 k hk).1
theorem fiB_len {l : List Ax} {m : List (List Pr)} (h : fiB l m = true) : l.length ≤ 4 ∧ m.length ≤ 4 := by
  have h1 := (FrA.iff.1 (frA_iff.1 (fiB_iff.1 h).1)).1
  have h2 := (fiB_iff.1 h).2.1
  omega

/-- The exact coordinate of a place on axis number i. -/
def exQ (l : List Ax) (m : List (List Pr)) (ps : List Int) (i : Nat) : Rat := beQ (m.getD i []) (plQ (l.getD i Ax.none) (clV l ps i))
/-- The first k of them; rounded. -/
def exK (l : List Ax) (m : List (List Pr)) (ps : List Int) (k : Nat) : List Rat := (List.range k).map (exQ l m ps)
def rnK (qs : List Rat) (k : Nat) : List Int := (qs.take k).map to14
theorem exK_len (l : List Ax) (m : List (List Pr)) (ps : List Int) (k : Nat) : (exK l m ps k).length = k := by simp [exK]
theorem exK_succ (l : List Ax) (m : List (List Pr)) (ps : List Int) (k : Nat) : exK l m ps (k + 1) = exK l m ps k ++ [exQ l m ps k] := by
  rw [exK, List.range_succ, List.map_append]
  rfl
theorem exK_get (l : List Ax) (m : List (List Pr)) (ps : List Int) {i k : Nat} (h : i < k) : (exK l m ps k).getD i 0 = exQ l m ps i := by
  simp [exK, List.getD, h]
theorem rnK_len {qs : List Rat} {k : Nat} (h : k ≤ qs.length) : (rnK qs k).length = k := by simp [rnK]; omega
theorem rnK_succ {qs : List Rat} {k : Nat} (h : k < qs.length) : rnK qs (k + 1) = rnK qs k ++ [to14 (qs.getD k 0)] := by
  rw [rnK, List.take_succ_eq_append_getElem h, List.map_append]
  simp [rnK, List.getD, h]
theorem rnK_get {qs : List Rat} {i k : Nat} (h : i < k) (hk : k ≤ qs.length) : (rnK qs k).getD i 0 = to14 (qs.getD i 0) := by
  have : i < qs.length := by omega
  simp [rnK, List.getD, h, this]
/-- What Exact and At answer. -/
def exL (l : List Ax) (m : List (List Pr)) (ps : List Int) : List Rat := if fiB l m then exK l m ps l.length else []
def exE (l : List Ax) (m : List (List Pr)) : Int := if fiB l m then 0 else 1
def atL (l : List Ax) (m : List (List Pr)) (ps : List Int) : List Int := rnK (exL l m ps) (exL l m ps).length
theorem exL_yes {l : List Ax} {m : List (List Pr)} (h : fiB l m = true) (ps : List Int) : exL l m ps = exK l m ps l.length := by rw [exL, if_pos h]
theorem exL_no {l : List Ax} {m : List (List Pr)} (h : fiB l m = false) (ps : List Int) : exL l m ps = [] := by simp [exL, h]
theorem exE_yes {l : List Ax} {m : List (List Pr)} (h : fiB l m = true) : exE l m = 0 := by rw [exE, if_pos h]
theorem exE_no {l : List Ax} {m : List (List Pr)} (h : fiB l m = false) : exE l m = 1 := by simp [exE, h]
theorem exL_len4 (l : List Ax) (m : List (List Pr)) (ps : List Int) : (exL l m ps).length ≤ 4 := by
  cases h : fiB l m with
  | false => rw [exL_no h]; simp
  | true => rw [exL_yes h, exK_len]; exact (fiB_len h).1
theorem atL_len (l : List Ax) (m : List (List Pr)) (ps : List Int) : (atL l m ps).length = (exL l m ps).length := by rw [atL, rnK_len (Nat.le_refl _)]
theorem atL_yes {l : List Ax} {m : List (List Pr)} (h : fiB l m = true) (ps : List Int) : (atL l m ps).length = l.length := by rw [atL_len, exL_yes h, exK_len]
theorem atL_get {l : List Ax} {m : List (List Pr)} (h : fiB l m = true) (ps : List Int) {i : Nat} (hi : i < l.length) : (atL l m ps).getD i 0 = to14 (exQ l m ps i) := by
  have e : (exL l m ps).length = l.length := by rw [exL_yes h, exK_len]
  rw [atL, rnK_get (by omega) (Nat.le_refl _), exL_yes h, exK_get _ _ _ hi]

theorem floor_monoN {q r : Rat} (h : q ≤ r) : (q + 1 / 2).floor ≤ (r + 1 / 2).floor := by
  have f1 := Rat.floor_le (q + 1 / 2)
  have f2 := Rat.lt_floor (x := r + 1 / 2)
  generalize (q + 1 / 2).floor = x at *
  generalize (r + 1 / 2).floor = y at *
  have : ((x : Int) : Rat) < ((y + 1 : Int) : Rat) := by
    rw [Rat.intCast_add]
    grind
  have := Rat.intCast_lt_intCast.1 this
  omega
theorem t14_mono {q r : Rat} (h : q ≤ r) : to14 q ≤ to14 r := by
  have h1 : (q * 16384 + 1 / 2).floor ≤ (r * 16384 + 1 / 2).floor := floor_monoN (by grind)
  unfold to14 c14
  split <;> split <;> (try split) <;> (try split) <;> omega
theorem t14_in (q : Rat) : -16384 ≤ to14 q ∧ to14 q ≤ 16384 := by
  unfold to14 c14
  split
  · omega
  · split <;> omega
theorem t14_crd (q : Rat) : crd (to14 q) = true := crd_yes.2 (t14_in q)
theorem t14_i64 (q : Rat) : I64 (to14 q) := by
  have := t14_in q
  unfold I64
  omega
theorem t14_zero : to14 0 = 0 := by decide +kernel
theorem t14_one : to14 ((1 : Int) : Rat) = 16384 := by decide +kernel
/-- From -1 to 1 a coordinate differs by at most half a step. -/
theorem t14_near {q : Rat} (h1 : ((-1 : Int) : Rat) ≤ q) (h2 : q ≤ ((1 : Int) : Rat)) :
    ((to14 q : Int) : Rat) / ((16384 : Int) : Rat) - q ≤ ((1 : Int) : Rat) / ((32768 : Int) : Rat) ∧ ((-1 : Int) : Rat) / ((32768 : Int) : Rat) < ((to14 q : Int) : Rat) / ((16384 : Int) : Rat) - q := by
  have f1 := Rat.floor_le (q * 16384 + 1 / 2)
  have f2 := Rat.lt_floor (x := q * 16384 + 1 / 2)
  have e1 : ((-1 : Int) : Rat) = -1 := rfl
  have e2 : ((1 : Int) : Rat) = 1 := rfl
  have e3 : ((-1 : Int) : Rat) / ((32768 : Int) : Rat) = -1 / 32768 := by decide +kernel
  have e4 : ((1 : Int) : Rat) / ((32768 : Int) : Rat) = 1 / 32768 := by decide +kernel
  have hc : to14 q = (q * 16384 + 1 / 2).floor := by
    unfold to14
    generalize (q * 16384 + 1 / 2).floor = z at f1 f2
    have g1 : ((-16385 : Int) : Rat) < ((z : Int) : Rat) := by rw [e1] at h1; grind
    have g2 : ((z : Int) : Rat) < ((16385 : Int) : Rat) := by rw [e2] at h2; grind
    have := Rat.intCast_lt_intCast.1 g1
    have := Rat.intCast_lt_intCast.1 g2
    unfold c14
    rw [if_neg (by omega), if_neg (by omega)]
  rw [hc, e3, e4]
  generalize (q * 16384 + 1 / 2).floor = z at *
  have e5 : ((z : Int) : Rat) / ((16384 : Int) : Rat) = ((z : Int) : Rat) * (1 / 16384) := by
    rw [Rat.div_def]
    have : ((16384 : Int) : Rat)⁻¹ = 1 / 16384 := by decide +kernel
    rw [this]
  rw [e5]
  constructor <;> grind

theorem plQ_in (t : Ax) (u : Int) : ((-1 : Int) : Rat) ≤ plQ t u ∧ plQ t u ≤ ((1 : Int) : Rat) := by
  cases h : onA t with
  | false =>
    simp [plQ, h]
    decide +kernel
  | true =>
    have ho := (onA_iff.1 h).2
    have hc := clp_in (u := u) (a := t.lo) (b := t.hi) (by omega)
    rw [plQ, if_pos h]
    exact sdQ_in hc.1 hc.2
theorem plQ_mono {t : Ax} {u v : Int} (h : u ≤ v) : plQ t u ≤ plQ t v := by
  cases ho : onA t with
  | false => simp [plQ, ho]
  | true =>
    have h1 := (onA_iff.1 ho).2
    have c1 := clp_in (u := u) (a := t.lo) (b := t.hi) (by omega)
    have c2 := clp_in (u := v) (a := t.lo) (b := t.hi) (by omega)
    rw [plQ, plQ, if_pos ho, if_pos ho]
    exact sdQ_mono c1.1 c2.2 (clp_mono h)
theorem plQ_us {t : Ax} (ho : onA t = true) : plQ t t.us = 0 := by
  have h1 := (onA_iff.1 ho).2
  rw [plQ, if_pos ho, clp_self (by omega) (by omega), sdQ_us]
theorem plQ_hi {t : Ax} (ho : onA t = true) : plQ t t.hi = if t.hi = t.us then 0 else ((1 : Int) : Rat) := by
  have h1 := (onA_iff.1 ho).2
  rw [plQ, if_pos ho, clp_self (by omega) (by omega)]
  split
  · rename_i h
    rw [h, sdQ_us]
  · exact sdQ_hi (by omega)
theorem exQ_in {l : List Ax} {m : List (List Pr)} (h : fiB l m = true) (ps : List Int) (i : Nat) : ((-1 : Int) : Rat) ≤ exQ l m ps i ∧ exQ l m ps i ≤ ((1 : Int) : Rat) := beQ_in (fiB_bend h i) _
/-- Without bends it is the plain coordinate. -/
theorem exQ_none (l : List Ax) (ps : List Int) (i : Nat) : exQ l [] ps i = plQ (l.getD i Ax.none) (clV l ps i) := by
  have := plQ_in (l.getD i Ax.none) (clV l ps i)
  rw [exQ, getM_out (Nat.zero_le _), beQ_nil this.1 this.2]
theorem beQ_zeroR {l : List Pr} (h : frP l = true) : beQ l 0 = 0 := beQ_zero h
theorem at_us {l : List Ax} {m : List (List Pr)} (h : fiB l m = true) {ps : List Int} {i : Nat} (hi : i < l.length) (hp : clV l ps i = (l.getD i Ax.none).us) : to14 (exQ l m ps i) = 0 := by
  rw [exQ, hp, plQ_us (fiB_axis h hi), beQ_zeroR (fiB_bend h i), t14_zero]
theorem at_hi {l : List Ax} {m : List (List Pr)} (h : fiB l m = true) {ps : List Int} {i : Nat} (hi : i < l.length) (hp : clV l ps i = (l.getD i Ax.none).hi) : to14 (exQ l m ps i) = if (l.getD i Ax.none).hi = (l.getD i Ax.none).us then 0 else 16384 := by
  rw [exQ, hp, plQ_hi (fiB_axis h hi)]
  split
  · rw [beQ_zeroR (fiB_bend h i), t14_zero]
  · rw [beQ_one (fiB_bend h i), t14_one]
/-- The usual values; the greatest ones. -/
def usK (l : List Ax) (k : Nat) : List Int := (l.take k).map Ax.us
def hiK (l : List Ax) (k : Nat) : List Int := (l.take k).map Ax.hi
theorem usK_len {l : List Ax} {k : Nat} (h : k ≤ l.length) : (usK l k).length = k := by simp [usK]; omega
theorem hiK_len {l : List Ax} {k : Nat} (h : k ≤ l.length) : (hiK l k).length = k := by simp [hiK]; omega
theorem usK_succ {l : List Ax} {k : Nat} (h : k < l.length) : usK l (k + 1) = usK l k ++ [(l.getD k Ax.none).us] := by
  rw [usK, takeA_succ h, List.map_append]
  rfl
theorem hiK_succ {l : List Ax} {k : Nat} (h : k < l.length) : hiK l (k + 1) = hiK l k ++ [(l.getD k Ax.none).hi] := by
  rw [hiK, takeA_succ h, List.map_append]
  rfl
theorem usK_get {l : List Ax} {i : Nat} (h : i < l.length) : (usK l l.length).getD i 0 = (l.getD i Ax.none).us := by simp [usK, List.getD, h]
theorem hiK_get {l : List Ax} {i : Nat} (h : i < l.length) : (hiK l l.length).getD i 0 = (l.getD i Ax.none).hi := by simp [hiK, List.getD, h]
theorem clV_nil (l : List Ax) (i : Nat) : clV l [] i = (l.getD i Ax.none).us := by simp [clV]
theorem clV_us {l : List Ax} {m : List (List Pr)} (h : fiB l m = true) {i : Nat} (hi : i < l.length) : clV l (usK l l.length) i = (l.getD i Ax.none).us := by
  have ho := (onA_iff.1 (fiB_axis h hi)).2
  rw [clV, if_pos (by rw [usK_len (Nat.le_refl _)]; exact hi), usK_get hi, clp_self (by omega) (by omega)]
theorem clV_hi {l : List Ax} {m : List (List Pr)} (h : fiB l m = true) {i : Nat} (hi : i < l.length) : clV l (hiK l l.length) i = (l.getD i Ax.none).hi := by
  have ho := (onA_iff.1 (fiB_axis h hi)).2
  rw [clV, if_pos (by rw [hiK_len (Nat.le_refl _)]; exact hi), hiK_get hi, clp_self (by omega) (by omega)]
/-- A place that is changed on one axis. -/
theorem clV_set_ne (l : List Ax) (ps : List Int) {i k : Nat} (z : Int) (h : i ≠ k) : clV l (ps.set k z) i = clV l ps i := by
  unfold clV
  rw [List.length_set]
  have : (ps.set k z).getD i 0 = ps.getD i 0 := by simp [List.getD, List.getElem?_set, show k ≠ i from fun e => h e.symm]
  rw [this]
theorem clV_set_le (l : List Ax) (ps : List Int) {k : Nat} (z : Int) (hk : k < ps.length) (h : ps.getD k 0 ≤ z) : clV l ps k ≤ clV l (ps.set k z) k := by
  unfold clV
  rw [List.length_set, if_pos hk, if_pos hk]
  have : (ps.set k z).getD k 0 = z := by simp [List.getD, hk]
  rw [this]
  exact clp_mono h
theorem exQ_ne (l : List Ax) (m : List (List Pr)) (ps : List Int) {i k : Nat} (z : Int) (h : i ≠ k) : exQ l m (ps.set k z) i = exQ l m ps i := by rw [exQ, exQ, clV_set_ne l ps z h]
theorem exQ_le {l : List Ax} {m : List (List Pr)} (hf : fiB l m = true) (ps : List Int) {k : Nat} (z : Int) (hk : k < ps.length) (h : ps.getD k 0 ≤ z) : to14 (exQ l m ps k) ≤ to14 (exQ l m (ps.set k z) k) :=
  t14_mono (beQ_mono (fiB_bend hf k) (plQ_mono (clV_set_le l ps z hk h)))
theorem exQ_le' {l : List Ax} {m : List (List Pr)} (hf : fiB l m = true) (ps : List Int) {k : Nat} (z : Int) (i : Nat) (hk : k < ps.length) (h : ps.getD k 0 ≤ z) : to14 (exQ l m ps i) ≤ to14 (exQ l m (ps.set k z) i) := by
  by_cases e : i = k
  · subst e
    exact exQ_le hf ps z hk h
  · rw [exQ_ne l m ps z e]
    omega

end Go.Proofs.Ytdpafdeoepbhaaa
