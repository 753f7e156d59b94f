/-
  foundrylaw04.few, act: the walks.
-/
import Derived.Test.YtcjomppgllbfpaaOJ
namespace Go.Proofs.Ytcjomppgllbfpaa
open Go.RowKit Go.Maps
set_option linter.unusedSimpArgs false
set_option linter.unusedVariables false

/-- An act on a page. -/
structure OpD where
  kd : Int
  n : Int
  m : Int
  tx : ByteArray
def OpD.ok (o : OpD) : Prop := I64 o.kd ∧ I64 o.n ∧ I64 o.m ∧ o.tx.size ≤ maxLen
def OpD.none : OpD := ⟨0, 0, 0, ⟨#[]⟩⟩

/-- A script that is read. -/
def Ro (w : World) (a : Option Addr) (cap : Nat) (os : List OpD) : Prop :=
  (∀ o ∈ os, o.ok) ∧ os.length ≤ cap ∧ cap ≤ maxLen ∧
  (os = [] ∨ ∃ b off, a = some ⟨b, off, none⟩ ∧ b < w.heap.size ∧ ∀ i, i < os.length →
    w.cell? ⟨b, off + i * 4, none⟩ = some (.int .i64 (os.getD i OpD.none).kd) ∧ w.cell? ⟨b, off + i * 4 + 1, none⟩ = some (.int .i64 (os.getD i OpD.none).n) ∧
    w.cell? ⟨b, off + i * 4 + 2, none⟩ = some (.int .i64 (os.getD i OpD.none).m) ∧ w.cell? ⟨b, off + i * 4 + 3, none⟩ = some (.string (os.getD i OpD.none).tx))
theorem Ro.at {w wr : World} {a : Option Addr} {cap : Nat} {os : List OpD} (h : Ro w a cap os) (hb : Below w.heap.size w wr) (k : Nat) (hk : k < os.length) :
    ∃ b off, a = some ⟨b, off, none⟩ ∧ b < w.heap.size ∧ wr.cell? ⟨b, off + k * 4, none⟩ = some (.int .i64 (os.getD k OpD.none).kd) ∧ wr.cell? ⟨b, off + k * 4 + 1, none⟩ = some (.int .i64 (os.getD k OpD.none).n) ∧
    wr.cell? ⟨b, off + k * 4 + 2, none⟩ = some (.int .i64 (os.getD k OpD.none).m) ∧ wr.cell? ⟨b, off + k * 4 + 3, none⟩ = some (.string (os.getD k OpD.none).tx) := by
  rcases h.2.2.2 with rfl | ⟨b, off, h1, h2, h3⟩
  · simp at hk
  · obtain ⟨c1, c2, c3, c4⟩ := h3 k hk
    exact ⟨b, off, h1, h2, (hb.cell (p := ⟨b, off + k * 4, none⟩) h2).trans c1, (hb.cell (p := ⟨b, off + k * 4 + 1, none⟩) h2).trans c2, (hb.cell (p := ⟨b, off + k * 4 + 2, none⟩) h2).trans c3, (hb.cell (p := ⟨b, off + k * 4 + 3, none⟩) h2).trans c4⟩
theorem Ro.ok {w : World} {a : Option Addr} {cap : Nat} {os : List OpD} (h : Ro w a cap os) {k : Nat} (hk : k < os.length) : (os.getD k OpD.none).ok := by
  rw [List.getD_eq_getElem?_getD, List.getElem?_eq_getElem hk]
  exact h.1 _ (List.getElem_mem hk)

/-- How great a script is. -/
def sz1 (o : OpD) : Nat := 1 + min o.tx.size 10000
def tot : List OpD → Nat
  | [] => 0
  | o :: os => sz1 o + tot os
theorem tot_append (xs ys : List OpD) : tot (xs ++ ys) = tot xs + tot ys := by
  induction xs with
  | nil => simp [tot]
  | cons x xs ih => rw [List.cons_append, tot, tot, ih]; omega
theorem tot_snoc (os : List OpD) (k : Nat) (hk : k < os.length) : tot (os.take (k + 1)) = tot (os.take k) + sz1 (os.getD k OpD.none) := by
  rw [List.take_succ_eq_append_getElem hk, tot_append]
  simp [tot, List.getD, hk]
theorem tot_take_le (os : List OpD) (k : Nat) : tot (os.take k) ≤ tot os := by
  have h := tot_append (os.take k) (os.drop k)
  rw [List.take_append_drop] at h
  omega
def fewB (os : List OpD) : Bool := decide (tot os ≤ 10000 ∧ os.length ≤ 200)

set_option maxHeartbeats 1000000 in
theorem few4_any (a : Option Addr) (cap : Nat) (os : List OpD) (w : World) (h : Ro w a cap os) :
    Calls Try.prog 24 #[.slice a os.length cap] w fun e w' => e = .returned (.bool (fewB os)) ∧ w = w' := by
  have k1 := h.2.1
  have k2 := h.2.2.1
  unfold maxLen at k2
  go_enter Try.func24, Try.ntmps24
  go_wp2
  go_loop [3, 4] (fun n i => ∃ k : Nat, k ≤ os.length ∧ i = .int .i64 k ∧ n = .int .i64 (tot (os.take k) : Int) ∧ tot (os.take k) ≤ 20001) (fun _ i => os.length - (intOf i).toNat)
  case atStart => exact ⟨0, Nat.zero_le _, rfl, rfl, by simp [tot]⟩
  case round =>
    obtain ⟨k, hk, rfl, rfl, hn⟩ := hrel
    obtain ⟨t, ht⟩ : ∃ t, tot (os.take k) = t := ⟨_, rfl⟩
    rw [ht] at hn ⊢
    have HT : Hid (tot (os.take k) = t) := ht
    clear ht
    by_cases hkn : k < os.length
    · by_cases ht2 : t ≤ 10000
      · obtain ⟨b, off, rfl, hb, c1, c2, c3, c4⟩ := h.at (Below.refl _ _) k hkn
        have hok := (h.ok hkn).2.2.2
        have hsn := tot_snoc os k hkn
        rw [HT.out] at hsn
        unfold sz1 at hsn
        generalize os.getD k OpD.none = o at *
        obtain ⟨kd, n, m, tx⟩ := o
        dsimp only at *
        unfold maxLen at hok
        obtain ⟨z, hz⟩ : ∃ z, tx.size = z := ⟨_, rfl⟩
        have HSN : Hid (tot (os.take (k + 1)) = t + (1 + min tx.size 10000)) := hsn
        have hg : (t : Int) ≤ 10000 := by omega
        clear hsn hz
        go_wp2
        go_round
        case rel =>
          refine ⟨k + 1, by omega, by go_num, ?_, ?_⟩
          · rw [HSN.out]; simp; omega
          · rw [HSN.out]; omega
        case measure => simp [intOf]; omega
      · have hg : ¬ (t : Int) ≤ 10000 := by omega
        have hf : Hid (fewB os = false) := by
          show fewB os = false
          have := tot_take_le os k
          rw [HT.out] at this
          simp [fewB]
          omega
        go_wp2
        go_ret
        exact ⟨rt_bool (by rw [hf.out]), rfl⟩
    · obtain rfl : k = os.length := by omega
      have hf : Hid (fewB os = decide (t ≤ 10000 ∧ os.length ≤ 200)) := by
        have := HT.out
        rw [List.take_length] at this
        show fewB os = _
        rw [fewB, this]
      by_cases hg : (t : Int) ≤ 10000
      · go_wp2
        go_ret
        refine ⟨rt_bool ?_, rfl⟩
        rw [hf.out]
        have ht3 : t ≤ 10000 := by omega
        by_cases hq : os.length ≤ 200
        · simp [ht3, hq]; omega
        · simp [ht3, hq]; omega
      · go_wp2
        go_ret
        exact ⟨rt_bool (by rw [hf.out]; simp; try omega), rfl⟩

/-- A page of the code and one of the reference, apart. -/
structure T2 (W0 w : World) (B C : Nat) (s t : St) (Gp Gq : Nat → Prop) : Prop where
  pc : Pc w B Gp s
  ps : Ps w C Gq t
  cov : ∀ k, k < w.heap.size → Gp k ∨ Gq k
  old : ∀ k, k < W0.heap.size → Gp k ∧ Gq k
  be : Below W0.heap.size W0 w
theorem T2.left {W0 w u : World} {B C : Nat} {s s' t : St} {Gp Gq : Nat → Prop} (h : T2 W0 w B C s t Gp Gq) (hP : Pc u B Gp s') (hK : Keep Gp w u) :
    T2 W0 u B C s' t Gp (fun k => Gq k ∨ (w.heap.size ≤ k ∧ k < u.heap.size)) := by
  have hst : ∀ k, k < w.heap.size → ¬ Gq k → u.heap[k]? = w.heap[k]? := fun k hk hq => by
    rcases h.cov k hk with h1 | h1
    · exact hK.block k h1
    · exact absurd h1 hq
  refine ⟨hP, h.ps.guard_new hK.size hst ?_, ?_, fun k hk => ⟨(h.old k hk).1, .inl (h.old k hk).2⟩, h.be.trans (hK.below (fun k hk => (h.old k hk).1))⟩
  · rintro k (hk | ⟨hk1, hk2⟩)
    · exact ⟨Nat.lt_of_lt_of_le (h.ps.1 k hk) hK.size, fun _ => hk⟩
    · exact ⟨hk2, fun hlt => by omega⟩
  · intro k hk
    by_cases hlt : k < w.heap.size
    · rcases h.cov k hlt with h1 | h1
      · exact .inl h1
      · exact .inr (.inl h1)
    · exact .inr (.inr ⟨by omega, hk⟩)
theorem T2.right {W0 w u : World} {B C : Nat} {s t t' : St} {Gp Gq : Nat → Prop} (h : T2 W0 w B C s t Gp Gq) (hP : Ps u C Gq t') (hK : Keep Gq w u) :
    T2 W0 u B C s t' (fun k => Gp k ∨ (w.heap.size ≤ k ∧ k < u.heap.size)) Gq := by
  have hst : ∀ k, k < w.heap.size → ¬ Gp k → u.heap[k]? = w.heap[k]? := fun k hk hq => by
    rcases h.cov k hk with h1 | h1
    · exact absurd h1 hq
    · exact hK.block k h1
  refine ⟨h.pc.guard_new hK.size hst ?_, hP, ?_, fun k hk => ⟨.inl (h.old k hk).1, (h.old k hk).2⟩, h.be.trans (hK.below (fun k hk => (h.old k hk).2))⟩
  · rintro k (hk | ⟨hk1, hk2⟩)
    · exact ⟨Nat.lt_of_lt_of_le (h.pc.1 k hk) hK.size, fun _ => hk⟩
    · exact ⟨hk2, fun hlt => by omega⟩
  · intro k hk
    by_cases hlt : k < w.heap.size
    · rcases h.cov k hlt with h1 | h1
      · exact .inl (.inl h1)
      · exact .inr h1
    · exact .inl (.inr ⟨by omega, hk⟩)
theorem T2.grow {W0 w u : World} {B C : Nat} {s t : St} {Gp Gq : Nat → Prop} (h : T2 W0 w B C s t Gp Gq) (hb : Below w.heap.size w u) :
    T2 W0 u B C s t Gp (fun k => Gq k ∨ (w.heap.size ≤ k ∧ k < u.heap.size)) :=
  h.left (h.pc.below hb) (Keep.of_below hb h.pc.1)
def Two (W0 w : World) (B C : Nat) (s : St) : Prop := ∃ Gp Gq, T2 W0 w B C s s Gp Gq

/-- What an act does. -/
def stp (s : St) (o : OpD) : St :=
  if o.kd = 1 then s.put8 o.n else if o.kd = 2 then s.put16 o.n else if o.kd = 3 then s.put32 o.n else if o.kd = 4 then s.tag (sb o.tx) else if o.kd = 5 then s.app (sb o.tx)
  else if o.kd = 6 then s.later else if o.kd = 7 then s.now o.n o.m else if o.kd = 8 then s.pad o.n else s

end Go.Proofs.Ytcjomppgllbfpaa
