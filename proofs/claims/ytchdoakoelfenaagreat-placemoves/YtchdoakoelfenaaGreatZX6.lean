/-
  foundryref20.Few: the walk.
  The plain mathematics of lists of limbs: values, trimmed lists, comparisons. Nothing here speaks of a program.
  What is known of a slice of limbs in a world: where it is read (Rd), and where it is a row of the call's own (Res). Two laws on append.
  nat.significant: the walk.
  nat.Trim, nat.Of: the walks.
-/
import Derived.Test.YtchdoakoelfenaaGreatZX5
import Derived.Deep.CutBlock
import Derived.Deep.CutRange
import Derived.BigQuiet
import Derived.Deep.QuietTactic
import Derived.WalkSmall
import Derived.Outline
import Derived.WalkKit
import Derived.ProofKit
import Derived.Below
import Derived.Laws.AppendOwnNone
import Derived.Test.YtchdoakoelfenaaGreatProg
namespace Go.Proofs.YtchdoakoelfenaaGreat
open Go.RowKit Go.Maps
set_option linter.unusedSimpArgs false
set_option linter.unusedVariables false

set_option maxHeartbeats 8000000 in
set_option maxRecDepth 100000 in
theorem sfew20_any (S : Nat → Prop) (a : Option Addr) (ca : Nat) (l : List Lk) (w : World) (hl : Gr LkE S w a ca l) :
    Calls Tryz.prog 13 #[.slice a l.length ca] w fun e w' => BoolL e ∧ Below w.heap.size w w' := by
  have kl := hl.lenB
  have HL : Hid (Gr LkE S w a ca l) := hl
  clear hl
  go_enter Tryz.func13, Tryz.ntmps13
  go_wp2
  go_loopw [3, 4] (fun vn vi wr => ∃ (z : Int) (k : Nat), vn = .int .i64 z ∧ vi = .int .i64 k ∧ k ≤ l.length ∧ Below w.heap.size w wr) (fun _ vi _ => l.length - (intOf vi).toNat)
  case atStart => exact ⟨0, 0, rfl, rfl, Nat.zero_le _, Below.refl _ _⟩
  case round =>
    obtain ⟨z, k, rfl, rfl, hk, hB⟩ := hrel
    by_cases hkn : k < l.length
    · have e1 : decide (k < l.length) = true := decide_eq_true hkn
      have e2 : decide ((k : Int) < (l.length : Int)) = true := decide_eq_true (by omega)
      by_cases hz : z ≤ 600
      · have e3 : decide (z ≤ 600) = true := decide_eq_true hz
        obtain ⟨b, off, ra, rc, rfl, -, hall⟩ := HL.out.lkAll k hkn
        have HALL : Hid (∀ u, Below w.heap.size w u → Gr RuE S u ra rc (l.getD k Lk.none).rs ∧ u.cell? ⟨b, off + k * 3 + 2, none⟩ = some (.slice ra (l.getD k Lk.none).rs.length rc)) := fun u hu => ⟨(hall u hu).1, (hall u hu).2.2.2⟩
        have kr := (hall wr hB).1.lenB
        obtain ⟨rs, hrs⟩ : ∃ rs, (l.getD k Lk.none).rs = rs := ⟨_, rfl⟩
        rw [hrs] at HALL kr
        obtain ⟨z1, hz1⟩ : ∃ z1, IntKind.i64.wrap (z + 1) = z1 := ⟨_, rfl⟩
        clear hall hrs hz
        have i1 : (0 : Int) ≤ (k : Int) := by omega
        have i2 : (k : Int) < (l.length : Int) := by omega
        go_wp2
        clear e3 e1 e2
        go_loopw [3, 5] (fun vn vj wr => ∃ (z : Int) (j : Nat), vn = .int .i64 z ∧ vj = .int .i64 j ∧ j ≤ rs.length ∧ Below w.heap.size w wr) (fun _ vj _ => rs.length - (intOf vj).toNat)
        case atStart => exact ⟨_, 0, rfl, rfl, Nat.zero_le _, hB⟩
        case round =>
          clear hB hz1
          rename World => wx
          obtain ⟨z2, j, rfl, rfl, hj, hB⟩ := hrel
          obtain ⟨hrs, d2⟩ := HALL.out wx hB
          by_cases hjn : j < rs.length
          · have e1 : decide (j < rs.length) = true := decide_eq_true hjn
            have e2 : decide ((j : Int) < (rs.length : Int)) = true := decide_eq_true (by omega)
            by_cases hz2 : z2 ≤ 600
            · have e3 : decide (z2 ≤ 600) = true := decide_eq_true hz2
              obtain ⟨rb, ro, a1, c1, a2, c2, rfl, hrb, -, -, -, x0, x1, -⟩ := hrs.ru10 (Below.refl _ _) j hjn
              have i3 : (0 : Int) ≤ (j : Int) := by omega
              have i4 : (j : Int) < (rs.length : Int) := by omega
              clear hrs hz2
              go_wp2
              go_quiet (fail)
              have hfin := hB.trans ((below_drewN (Below.refl wx.heap.size wx) nq).mono hB.size)
              generalize wx.drewN nq = uf at hfin
              clear x0 x1 d2 e3
              go_wp2
              go_roundw
              case rel => exact ⟨_, j + 1, rfl, by go_num, by omega, hfin⟩
              case measure => simp [intOf]; omega
            · have e3 : decide (z2 ≤ 600) = false := decide_eq_false hz2
              clear hrs hz2
              go_wp2
              go_roundw
              case rel => exact ⟨_, k + 1, rfl, by go_num, by omega, hB⟩
              case measure => simp [intOf]; omega
          · have e1 : decide (j < rs.length) = false := decide_eq_false hjn
            have e2 : decide ((j : Int) < (rs.length : Int)) = false := decide_eq_false (by omega)
            clear hrs hjn
            go_wp2
            go_roundw
            case rel => exact ⟨_, k + 1, rfl, by go_num, by omega, hB⟩
            case measure => simp [intOf]; omega
      · have e3 : decide (z ≤ 600) = false := decide_eq_false hz
        clear hz
        go_wp2
        go_ret
        exact ⟨⟨_, rfl⟩, hB⟩
    · have e1 : decide (k < l.length) = false := decide_eq_false hkn
      have e2 : decide ((k : Int) < (l.length : Int)) = false := decide_eq_false (by omega)
      clear hkn
      go_wp2
      go_ret
      exact ⟨⟨_, rfl⟩, hB⟩

end Go.Proofs.YtchdoakoelfenaaGreat

namespace Go.Proofs.YtchdoakoelfenaaGreat

/-- The value of a list of limbs, the least significant first. -/
def V : List Nat → Nat
  | [] => 0
  | x :: xs => x + 4294967296 * V xs

/-- Every limb has 32 bits. -/
def Lim (xs : List Nat) : Prop := ∀ x ∈ xs, x < 4294967296

/-- The list without the zeros at its end. -/
def strip : List Nat → List Nat
  | [] => []
  | x :: xs => if strip xs = [] then (if x = 0 then [] else [x]) else x :: strip xs

/-- No zero stands at the list's end. -/
def Tr (xs : List Nat) : Prop := strip xs = xs

theorem V_append (xs ys : List Nat) : V (xs ++ ys) = V xs + 4294967296 ^ xs.length * V ys := by
  induction xs with
  | nil => simp [V]
  | cons x xs ih => simp only [List.cons_append, V, ih, List.length_cons, Nat.pow_succ, Nat.mul_add]; rw [Nat.mul_comm (4294967296 ^ xs.length) 4294967296, Nat.mul_assoc]; omega

theorem Lim.cons {x : Nat} {xs : List Nat} (h : Lim (x :: xs)) : x < 4294967296 ∧ Lim xs := ⟨h x (by simp), fun y hy => h y (by simp [hy])⟩
theorem Lim.mk {x : Nat} {xs : List Nat} (hx : x < 4294967296) (h : Lim xs) : Lim (x :: xs) := by
  intro y hy; rcases List.mem_cons.1 hy with rfl | hy
  · exact hx
  · exact h y hy
theorem Lim.nil : Lim [] := by intro x hx; cases hx
theorem Lim.append {xs ys : List Nat} (h : Lim xs) (k : Lim ys) : Lim (xs ++ ys) := by
  intro x hx; rcases List.mem_append.1 hx with hx | hx
  · exact h x hx
  · exact k x hx
theorem Lim.snoc {xs : List Nat} {x : Nat} (h : Lim xs) (hx : x < 4294967296) : Lim (xs ++ [x]) := h.append (Lim.mk hx Lim.nil)

theorem Lim.take {xs : List Nat} (h : Lim xs) (n : Nat) : Lim (xs.take n) := fun x hx => h x (List.mem_of_mem_take hx)
theorem Lim.drop {xs : List Nat} (h : Lim xs) (n : Nat) : Lim (xs.drop n) := fun x hx => h x (List.mem_of_mem_drop hx)
theorem Lim.getD {xs : List Nat} (h : Lim xs) (i : Nat) : xs.getD i 0 < 4294967296 := by
  rw [List.getD_eq_getElem?_getD]
  by_cases hi : i < xs.length
  · rw [List.getElem?_eq_getElem hi]; exact h _ (List.getElem_mem hi)
  · rw [List.getElem?_eq_none (by omega)]; decide
theorem Lim.set {xs : List Nat} (h : Lim xs) (i : Nat) {x : Nat} (hx : x < 4294967296) : Lim (xs.set i x) := by
  intro y hy; rcases List.mem_or_eq_of_mem_set hy with hy | rfl
  · exact h y hy
  · exact hx

theorem V_lt {xs : List Nat} (h : Lim xs) : V xs < 4294967296 ^ xs.length := by
  induction xs with
  | nil => simp [V]
  | cons x xs ih =>
    have := ih h.cons.2; have hx := h.cons.1
    simp only [V, List.length_cons, Nat.pow_succ]; omega

theorem V_nil : V [] = 0 := rfl
theorem V_zeros (n : Nat) : V (List.replicate n 0) = 0 := by
  induction n with
  | zero => rfl
  | succ n ih => rw [List.replicate_succ, V, ih]

theorem getD_take_succ (xs : List Nat) (i : Nat) : xs.take (i + 1) = xs.take i ++ (if i < xs.length then [xs.getD i 0] else []) := by
  by_cases h : i < xs.length
  · rw [if_pos h, List.take_succ_eq_append_getElem h]; simp [List.getD, h]
  · rw [if_neg h, List.take_of_length_le (by omega), List.take_of_length_le (by omega)]; simp

theorem V_take_succ (xs : List Nat) (i : Nat) : V (xs.take (i + 1)) = V (xs.take i) + 4294967296 ^ i * xs.getD i 0 := by
  rw [getD_take_succ, V_append]
  by_cases h : i < xs.length
  · rw [if_pos h, List.length_take, Nat.min_eq_left (by omega)]; simp [V]
  · rw [if_neg h]; simp [V, List.getD, List.getElem?_eq_none (Nat.le_of_not_lt h)]

theorem V_take_drop (xs : List Nat) (i : Nat) : V xs = V (xs.take i) + 4294967296 ^ i * V (xs.drop i) := by
  by_cases h : i ≤ xs.length
  · have := V_append (xs.take i) (xs.drop i)
    rw [List.take_append_drop, List.length_take, Nat.min_eq_left h] at this; exact this
  · rw [List.take_of_length_le (by omega), List.drop_eq_nil_of_le (by omega)]; simp [V]

theorem V_snoc (xs : List Nat) (x : Nat) : V (xs ++ [x]) = V xs + 4294967296 ^ xs.length * x := by rw [V_append]; simp [V]

/-- Two lists that read alike have one value. -/
theorem V_congr : ∀ (a b : List Nat), (∀ j, a.getD j 0 = b.getD j 0) → V a = V b := by
  intro a; induction a with
  | nil =>
    intro b; induction b with
    | nil => intro _; rfl
    | cons y b ih =>
      intro h
      have h0 := h 0; have h1 := ih (fun j => by have := h (j + 1); simpa using this)
      simp at h0; simp only [V] at h1 ⊢; omega
  | cons x a ih =>
    intro b h
    cases b with
    | nil =>
      have h0 := h 0; have h1 := ih [] (fun j => by have := h (j + 1); simpa using this)
      simp at h0; simp only [V] at h1 ⊢; omega
    | cons y b =>
      have h0 := h 0; have h1 := ih b (fun j => by have := h (j + 1); simpa using this)
      simp at h0; rw [V, V, h1, h0]

theorem getD_tail (a : List Nat) (j : Nat) : a.tail.getD j 0 = a.getD (j + 1) 0 := by cases a <;> simp
theorem V_head_tail (a : List Nat) : V a = a.getD 0 0 + 4294967296 * V a.tail := by cases a <;> simp [V]
theorem Lim.tail {a : List Nat} (h : Lim a) : Lim a.tail := by
  cases a with
  | nil => exact h
  | cons x a => exact h.cons.2

/-- Where the limbs above place i are alike and the one there is less, so is the value. -/
theorem V_lt_top : ∀ (i : Nat) (a b : List Nat), Lim a → (∀ j, i < j → a.getD j 0 = b.getD j 0) → a.getD i 0 < b.getD i 0 → V a < V b := by
  intro i; induction i with
  | zero =>
    intro a b _ h h0
    rw [V_head_tail a, V_head_tail b, V_congr a.tail b.tail (fun j => by rw [getD_tail, getD_tail]; exact h (j + 1) (by omega))]; omega
  | succ i ih =>
    intro a b hl h h0
    have := ih a.tail b.tail hl.tail (fun j hj => by rw [getD_tail, getD_tail]; exact h (j + 1) (by omega)) (by rw [getD_tail, getD_tail]; exact h0)
    have hx := hl.getD 0
    rw [V_head_tail a, V_head_tail b]; omega

theorem strip_nil : strip [] = [] := rfl
theorem V_strip (xs : List Nat) : V (strip xs) = V xs := by
  induction xs with
  | nil => rfl
  | cons x xs ih =>
    rw [strip]
    by_cases h : strip xs = []
    · rw [if_pos h]; rw [h] at ih
      by_cases hx : x = 0
      · rw [if_pos hx]; simp only [V] at ih ⊢; omega
      · rw [if_neg hx]; simp only [V] at ih ⊢; omega
    · rw [if_neg h]; simp only [V]; rw [ih]
theorem strip_strip (xs : List Nat) : strip (strip xs) = strip xs := by
  induction xs with
  | nil => rfl
  | cons x xs ih =>
    rw [strip]
    by_cases h : strip xs = []
    · rw [if_pos h]
      by_cases hx : x = 0
      · rw [if_pos hx]; rfl
      · rw [if_neg hx]; simp [strip, hx]
    · rw [if_neg h, strip, ih, if_neg h]
theorem tr_strip (xs : List Nat) : Tr (strip xs) := strip_strip xs
theorem tr_nil : Tr [] := rfl
theorem strip_snoc_zero (xs : List Nat) : strip (xs ++ [0]) = strip xs := by
  induction xs with
  | nil => rfl
  | cons x xs ih => rw [List.cons_append, strip, ih, strip]
theorem strip_snoc (xs : List Nat) (x : Nat) (hx : x ≠ 0) : strip (xs ++ [x]) = xs ++ [x] := by
  induction xs with
  | nil => simp [strip, hx]
  | cons y xs ih => rw [List.cons_append, strip, ih, if_neg (by simp)]
theorem tr_snoc {xs : List Nat} {x : Nat} (hx : x ≠ 0) : Tr (xs ++ [x]) := strip_snoc xs x hx
theorem strip_take (xs : List Nat) : strip xs = xs.take (strip xs).length := by
  induction xs with
  | nil => rfl
  | cons x xs ih =>
    rw [strip]
    by_cases h : strip xs = []
    · rw [if_pos h]
      by_cases hx : x = 0
      · rw [if_pos hx]; simp
      · rw [if_neg hx]; simp
    · rw [if_neg h]; simp only [List.length_cons, List.take_succ_cons]; rw [← ih]
theorem strip_length_le (xs : List Nat) : (strip xs).length ≤ xs.length := by rw [strip_take]; simp; omega
theorem Lim.strip {xs : List Nat} (h : Lim xs) : Lim (strip xs) := by rw [strip_take]; exact h.take _

/-- What is stripped of a head: the zeros behind it do not count. -/
theorem strip_take_zero (xs : List Nat) (n : Nat) (h : n < xs.length) (h0 : xs.getD n 0 = 0) : strip (xs.take (n + 1)) = strip (xs.take n) := by
  rw [getD_take_succ, if_pos h, h0, strip_snoc_zero]
theorem strip_take_some (xs : List Nat) (n : Nat) (h : n < xs.length) (h0 : xs.getD n 0 ≠ 0) : strip (xs.take (n + 1)) = xs.take (n + 1) := by
  rw [getD_take_succ, if_pos h, strip_snoc _ _ h0]

/-- The last limb of a trimmed list isn't 0. -/
theorem Tr.last {xs : List Nat} (h : Tr xs) (hn : xs ≠ []) : xs.getD (xs.length - 1) 0 ≠ 0 := by
  intro h0
  have hl : 0 < xs.length := List.length_pos_iff.2 hn
  have e := strip_take_zero xs (xs.length - 1) (by omega) h0
  rw [show xs.length - 1 + 1 = xs.length by omega, List.take_length] at e
  have e2 : strip xs = xs := h
  have := strip_length_le (xs.take (xs.length - 1))
  rw [← e, e2] at this
  simp at this; omega

theorem V_ge {xs : List Nat} (h : Tr xs) (hn : xs ≠ []) : 4294967296 ^ (xs.length - 1) ≤ V xs := by
  have hl : 0 < xs.length := List.length_pos_iff.2 hn
  have e := V_take_succ xs (xs.length - 1)
  rw [show xs.length - 1 + 1 = xs.length by omega, List.take_length] at e
  have h1 := h.last hn
  rw [e]
  calc 4294967296 ^ (xs.length - 1) = 4294967296 ^ (xs.length - 1) * 1 := by omega
    _ ≤ 4294967296 ^ (xs.length - 1) * xs.getD (xs.length - 1) 0 := Nat.mul_le_mul_left _ (by omega)
    _ ≤ _ := by omega

theorem len_le_of_V {xs : List Nat} (h : Tr xs) {k : Nat} (hv : V xs < 4294967296 ^ k) : xs.length ≤ k := by
  rcases Decidable.em (xs = []) with rfl | hn
  · simp
  · have h1 := V_ge h hn
    rcases Nat.lt_or_ge k xs.length with hk | hk
    · have : 4294967296 ^ k ≤ 4294967296 ^ (xs.length - 1) := Nat.pow_le_pow_right (by decide) (by omega)
      omega
    · exact hk

theorem V_lt_of_length {a b : List Nat} (ha : Lim a) (hb : Tr b) (h : a.length < b.length) : V a < V b := by
  have h1 := V_lt ha
  have h2 := V_ge hb (by intro e; rw [e] at h; simp at h)
  have : 4294967296 ^ a.length ≤ 4294967296 ^ (b.length - 1) := Nat.pow_le_pow_right (by decide) (by omega)
  omega

theorem eq_nil_of_V {xs : List Nat} (h : Tr xs) (hv : V xs = 0) : xs = [] := by
  rcases Decidable.em (xs = []) with rfl | hn
  · rfl
  · have h1 := V_ge h hn
    have : 0 < 4294967296 ^ (xs.length - 1) := Nat.pow_pos (by decide)
    omega

theorem V_eq_lists : ∀ (n : Nat) (a b : List Nat), a.length = n → b.length = n → Lim a → Lim b → V a = V b → a = b := by
  intro n; induction n with
  | zero => intro a b ha hb _ _ _; rw [List.length_eq_zero_iff.1 ha, List.length_eq_zero_iff.1 hb]
  | succ n ih =>
    intro a b ha hb la lb h
    match a, b, ha, hb with
    | x :: a, y :: b, ha, hb =>
      have := la.cons.1; have := lb.cons.1
      simp only [V] at h
      have e1 : x = y := by omega
      have e2 : V a = V b := by omega
      rw [e1, ih a b (by simpa using ha) (by simpa using hb) la.cons.2 lb.cons.2 e2]

/-- A trimmed list is told by its value. -/
theorem uniq {a b : List Nat} (la : Lim a) (lb : Lim b) (ta : Tr a) (tb : Tr b) (h : V a = V b) : a = b := by
  have h1 : ¬ a.length < b.length := fun hl => by have := V_lt_of_length la tb hl; omega
  have h2 : ¬ b.length < a.length := fun hl => by have := V_lt_of_length lb ta hl; omega
  exact V_eq_lists b.length a b (by omega) rfl la lb h

end Go.Proofs.YtchdoakoelfenaaGreat

namespace Go.Proofs.YtchdoakoelfenaaGreat
open Go.RowKit
set_option linter.unusedSimpArgs false
set_option linter.unusedVariables false

/-- A limb as a value. -/
def U (n : Nat) : Value := .int .u32 (n : Int)

/-- A slice of limbs: its address and capacity, and the limbs that are read there. -/
def Rd (w : World) (a : Option Addr) (cap : Nat) (xs : List Nat) : Prop :=
  Lim xs ∧ xs.length ≤ cap ∧ cap ≤ maxLen ∧ (a = none → cap = 0) ∧
  (xs = [] ∨ ∃ b off, a = some ⟨b, off, none⟩ ∧ b < w.heap.size ∧ ∀ i, i < xs.length → w.cell? ⟨b, off + i, none⟩ = some (.int .u32 (xs.getD i 0 : Nat)))

theorem Rd.lim {w : World} {a : Option Addr} {cap : Nat} {xs : List Nat} (h : Rd w a cap xs) : Lim xs := h.1
theorem Rd.le {w : World} {a : Option Addr} {cap : Nat} {xs : List Nat} (h : Rd w a cap xs) : xs.length ≤ cap := h.2.1
theorem Rd.cap {w : World} {a : Option Addr} {cap : Nat} {xs : List Nat} (h : Rd w a cap xs) : cap ≤ maxLen := h.2.2.1

/-- Where the limbs lie (a plain name, which no walk looks behind). -/
def Fm (w : World) (a : Option Addr) (xs : List Nat) : Prop :=
  xs = [] ∨ ∃ b off, a = some ⟨b, off, none⟩ ∧ b < w.heap.size ∧ ∀ i, i < xs.length → w.cell? ⟨b, off + i, none⟩ = some (.int .u32 (xs.getD i 0 : Nat))

theorem Rd.fm {w : World} {a : Option Addr} {cap : Nat} {xs : List Nat} (h : Rd w a cap xs) : Fm w a xs := h.2.2.2.2

theorem Fm.at {w wr : World} {a : Option Addr} {xs : List Nat} (h : Fm w a xs) (hb : Below w.heap.size w wr) (k : Nat) (hk : k < xs.length) :
    ∃ b off, a = some ⟨b, off, none⟩ ∧ b < w.heap.size ∧ wr.cell? ⟨b, off + k, none⟩ = some (.int .u32 (xs.getD k 0 : Nat)) := by
  rcases h with rfl | ⟨b, off, h1, h2, h3⟩
  · simp at hk
  · exact ⟨b, off, h1, h2, (hb.cell (p := ⟨b, off + k, none⟩) h2).trans (h3 k hk)⟩

theorem Rd.keep {w w' : World} {a : Option Addr} {cap : Nat} {xs : List Nat} (h : Rd w a cap xs) (hs : w.heap.size ≤ w'.heap.size)
    (hb : ∀ b, b < w.heap.size → (∃ o, a = some ⟨b, o, none⟩) → w'.heap[b]? = w.heap[b]?) : Rd w' a cap xs := by
  obtain ⟨h1, h2, h3, h5, h4⟩ := h
  refine ⟨h1, h2, h3, h5, ?_⟩
  rcases h4 with h4 | ⟨b, off, e, hb1, hc⟩
  · exact .inl h4
  · exact .inr ⟨b, off, e, Nat.lt_of_lt_of_le hb1 hs, fun i hi => (World.cell?_of_block (w := w) (a := ⟨b, off + i, none⟩) (hb b hb1 ⟨off, e⟩)).trans (hc i hi)⟩

theorem Rd.below {w w' : World} {a : Option Addr} {cap : Nat} {xs : List Nat} (h : Rd w a cap xs) (hb : Below w.heap.size w w') : Rd w' a cap xs :=
  h.keep hb.size fun b hb1 _ => hb.block b hb1

theorem Rd.take {w : World} {a : Option Addr} {cap : Nat} {xs : List Nat} (h : Rd w a cap xs) (n : Nat) : Rd w a cap (xs.take n) := by
  obtain ⟨h1, h2, h3, h5, h4⟩ := h
  refine ⟨h1.take n, by simp; omega, h3, h5, ?_⟩
  rcases h4 with rfl | ⟨b, off, e, hb1, hc⟩
  · exact .inl (by simp)
  · refine .inr ⟨b, off, e, hb1, fun i hi => ?_⟩
    simp at hi
    rw [hc i (by omega)]
    simp [List.getD, show i < n by omega]

theorem Rd.strip {w : World} {a : Option Addr} {cap : Nat} {xs : List Nat} (h : Rd w a cap xs) : Rd w a cap (strip xs) := by
  rw [strip_take]; exact h.take _

theorem Rd.nil (w : World) (a : Option Addr) (cap : Nat) (h : cap ≤ maxLen) (h0 : a = none → cap = 0) : Rd w a cap [] := ⟨Lim.nil, Nat.zero_le _, h, h0, .inl rfl⟩

/-- A row of the call's own. -/
def Res (e : TypeId) (base : Nat) (w : World) (a : Option Addr) (cap : Nat) (xs : List Nat) : Prop :=
  Lim xs ∧ w.ownsRow base e 1 (.slice a xs.length cap) xs.length (xs.map U)

theorem Res.lim {e : TypeId} {base : Nat} {w : World} {a : Option Addr} {cap : Nat} {xs : List Nat} (h : Res e base w a cap xs) : Lim xs := h.1

theorem Res.rd {e : TypeId} {base : Nat} {w : World} {a : Option Addr} {cap : Nat} {xs : List Nat} (h : Res e base w a cap xs) : Rd w a cap xs := by
  obtain ⟨hl, h⟩ := h
  rcases h.2 with ⟨hv, h0⟩ | ⟨g, cap', cur, hv, hb, hg, hc1, hc2, hc3, ht⟩
  · have : xs = [] := List.length_eq_zero_iff.1 h0
    subst this
    simp at hv
    exact Rd.nil _ _ _ (by rw [hv.2]; exact Nat.zero_le _) (fun _ => hv.2)
  · simp at hv
    obtain ⟨rfl, rfl⟩ := hv
    refine ⟨hl, hc1, hc2, (by simp), .inr ⟨g, 0, rfl, (Array.getElem?_eq_some_iff.1 hg).1, fun i hi => ?_⟩⟩
    have := h.cells (g := g) rfl i (U (xs.getD i 0)) (by simp [List.getD, hi])
    have hadd : (⟨g, 0, none⟩ : Addr).add i = ⟨g, 0 + i, none⟩ := by unfold Addr.add; split <;> simp_all
    rw [hadd] at this; exact this

theorem ownsRow_mono {w : World} {base base' : Nat} {e : TypeId} {size : Nat} {v : Value} {n : Nat} {xs : List Value} (h : w.ownsRow base e size v n xs) (hb : base' ≤ base) : w.ownsRow base' e size v n xs := by
  refine ⟨h.1, ?_⟩
  rcases h.2 with h0 | ⟨g, cap, cur, h1, h2, h3⟩
  · exact .inl h0
  · exact .inr ⟨g, cap, cur, h1, Nat.le_trans hb h2, h3⟩

theorem Res.mono {e : TypeId} {base base' : Nat} {w : World} {a : Option Addr} {cap : Nat} {xs : List Nat} (h : Res e base w a cap xs) (hb : base' ≤ base) : Res e base' w a cap xs := ⟨h.1, ownsRow_mono h.2 hb⟩

theorem Res.below {e : TypeId} {base : Nat} {w w' : World} {a : Option Addr} {cap : Nat} {xs : List Nat} (h : Res e base w a cap xs) (hb : Below w.heap.size w w') : Res e base w' a cap xs := by
  refine ⟨h.1, h.2.1, ?_⟩
  rcases h.2.2 with h0 | ⟨g, cap', cur, h1, h2, h3, h4⟩
  · exact .inl h0
  · exact .inr ⟨g, cap', cur, h1, h2, (hb.block g (Array.getElem?_eq_some_iff.1 h3).1).trans h3, h4⟩

/-- Out of what append leaves. -/
theorem Res.of {e : TypeId} {base : Nat} {w : World} {v : Value} {n : Nat} {xs : List Nat} (hl : Lim xs) (h : w.ownsRow base e 1 v n (xs.map U)) : ∃ a cap, v = .slice a xs.length cap ∧ Res e base w a cap xs := by
  have hn : n = xs.length := by have := h.1; simp at this; omega
  subst hn
  rcases h.2 with ⟨hv, h0⟩ | ⟨g, cap, cur, hv, _⟩
  · exact ⟨none, 0, by rw [hv, h0], hl, by rw [h0] at h ⊢; rw [hv] at h; exact h⟩
  · subst hv; exact ⟨_, cap, rfl, hl, h⟩

/-- A view of a block that is known whole. -/
theorem rd_block {w : World} {g : Nat} {zs : List Nat} {e : TypeId} (h : w.heap[g]? = some (.cells (zs.map U).toArray e (0, 0))) (hl : Lim zs) (off n cap : Nat) (h1 : off + n ≤ zs.length) (h2 : n ≤ cap) (h3 : cap ≤ maxLen) :
    Rd w (some ⟨g, off, none⟩) cap ((zs.drop off).take n) := by
  refine ⟨(hl.drop off).take n, by simp; omega, h3, (by simp), .inr ⟨g, off, rfl, (Array.getElem?_eq_some_iff.1 h).1, fun i hi => ?_⟩⟩
  simp at hi
  rw [cell_of_row w g (off + i) _ e (0, 0) h]
  simp [List.getD, U, show off + i < zs.length by omega, show i < n by omega]

theorem rd_new (w : World) (e : TypeId) (zs : List Nat) (cs : Array Value) (hc : cs = (zs.map U).toArray) (hl : Lim zs) (hm : zs.length ≤ maxLen) : Rd (w.alloc (.cells cs e)) (some ⟨w.heap.size, 0, none⟩) zs.length zs := by
  subst hc
  have := rd_block (heap_alloc_new w (.cells (zs.map U).toArray e)) hl 0 zs.length zs.length (by omega) (Nat.le_refl _) hm
  simpa using this

/-- What append leaves, in the walk's own spelling. -/
theorem own_snoc {w : World} {base : Nat} {e : TypeId} {v : Value} {n z : Nat} {zs : List Nat} (h : w.ownsRow base e 1 v n (List.map U zs ++ [U z])) : w.ownsRow base e 1 v n ((zs ++ [z]).map U) := by
  rw [List.map_append]; exact h

theorem oneCell_U (xs : List Nat) : ∀ u ∈ xs.map U, u.oneCell' = true := by
  intro u hu
  obtain ⟨x, _, rfl⟩ := List.mem_map.1 hu
  rfl

section
variable {P : Program} {w : World} {ops : Array Oper} {rest : List Oper} {o : Oper} {a : Act} {Q : Exit → Act → World → Prop}

/-- 'append(out, src...)': src is read, out is the call's own. -/
theorem wpList_append_rd (hgd : o.guard = none) (s x : Operand) (t : TypeId) (ho : o.op = .call { callee := .builtin .append, args := #[s, x], argTypes := #[t, t] })
    (base : Nat) (e : TypeId) (i : TypeInfo) (ht : P.underlying t = some (.slice e)) (hi : P.info? e = some i) (hz : i.zero = some (.int .u32 0)) (hsize : i.size = 1) (hby : i.bytes = 4)
    (v : Value) (n : Nat) (ys : List Nat) (hs : a.eval s = v) (hown : w.ownsRow base e 1 v n (ys.map U))
    (ad : Option Addr) (c m : Nat) (zs : List Nat) (hx : a.eval x = .slice ad m c) (hm : m = zs.length) (hrd : Rd w ad c zs) (hlen : n + zs.length ≤ 2000000000) (hbase : base ≤ w.heap.size)
    (h : ∀ v' w', w'.ownsRow base e 1 v' (n + zs.length) ((ys ++ zs).map U) → w.grownBy w' v.ownBlock → wpList P ops Q rest (a.put o.dst v') w') : wpList P ops Q (o :: rest) a w := by
  subst hm
  cases ad with
  | none =>
    have hc : c = 0 := hrd.2.2.2.1 rfl
    have hzs : zs = [] := by
      rcases hrd.2.2.2.2 with h0 | ⟨b, off, e', _⟩
      · exact h0
      · cases e'
    subst hzs; subst hc
    refine wpList_append_own_none hgd s x t ho base e i 1 ht hi v n (ys.map U) hs hown hx (h v w (by simpa using hown) (World.grownBy.refl w _))
  | some ad =>
    refine wpList_append_own w hgd s x t ho base e i (.int .u32 0) 1 4 ht hi hz hsize hby rfl (by decide) v n (ys.map U) hs hown ad zs.length c (zs.map U) hx (by simp) ?_ (oneCell_U zs) (by unfold maxLen; omega) (by omega) hbase ?_
    · intro j u hj
      rcases hrd.2.2.2.2 with rfl | ⟨b, off, e', hb, hc⟩
      · simp at hj
      · simp at e'; subst e'
        have hjl : j < zs.length := by
          rcases Nat.lt_or_ge j zs.length with h1 | h1
          · exact h1
          · rw [List.getElem?_eq_none (by simpa using h1)] at hj; cases hj
        have hadd : (⟨b, off, none⟩ : Addr).add j = ⟨b, off + j, none⟩ := by unfold Addr.add; split <;> simp_all
        rw [hadd, hc j hjl]
        rw [List.getElem?_map, List.getElem?_eq_getElem hjl] at hj
        simp at hj; rw [← hj]; simp [List.getD, hjl, U]
    · intro v' w' h1 h2 _
      exact h v' w' (by rw [List.map_append]; exact h1) h2

/-- 'append(out, x)': x is laid in a block of its own first. -/
theorem wpList_append_one (hgd : o.guard = none) (s x : Operand) (t : TypeId) (ho : o.op = .call { callee := .builtin .append, args := #[s, x], argTypes := #[t, t] })
    (base : Nat) (e : TypeId) (i : TypeInfo) (ht : P.underlying t = some (.slice e)) (hi : P.info? e = some i) (hz : i.zero = some (.int .u32 0)) (hsize : i.size = 1) (hby : i.bytes = 4)
    (v : Value) (n : Nat) (ys : List Nat) (hs : a.eval s = v) (hown : w.ownsRow base e 1 v n (ys.map U))
    (g z : Nat) (hx : a.eval x = .slice (some ⟨g, 0, none⟩) 1 1) (hc : w.cell? ⟨g, 0, none⟩ = some (.int .u32 (z : Int))) (hlen : n + 1 ≤ 2000000000) (hbase : base ≤ w.heap.size)
    (h : ∀ v' w', w'.ownsRow base e 1 v' (n + 1) ((ys ++ [z]).map U) → w.grownBy w' v.ownBlock → wpList P ops Q rest (a.put o.dst v') w') : wpList P ops Q (o :: rest) a w := by
  refine wpList_append_own w hgd s x t ho base e i (.int .u32 0) 1 4 ht hi hz hsize hby rfl (by decide) v n (ys.map U) hs hown ⟨g, 0, none⟩ 1 1 [U z] hx rfl ?_ (oneCell_U [z]) (by unfold maxLen; omega) (by omega) hbase ?_
  · intro j u hj
    match j, hj with
    | 0, hj => simp at hj; subst hj; simpa [Addr.add, U] using hc
  · intro v' w' h1 h2 _
    exact h v' w' (by rw [List.map_append]; exact h1) h2
end

theorem Below.drew1 {w : World} : Below w.heap.size w w.drew := (Below.refl _ _).drew

end Go.Proofs.YtchdoakoelfenaaGreat

namespace Go.Proofs.YtchdoakoelfenaaGreat
open Go.RowKit
set_option linter.unusedSimpArgs false
set_option linter.unusedVariables false

theorem ret_slice {a a' : Option Addr} {n n' c c' : Nat} (h1 : a = a') (h2 : n = n') (h3 : c = c') : Ending.returned (.slice a n c) = .returned (.slice a' n' c') := by rw [h1, h2, h3]

set_option maxHeartbeats 400000 in
set_option maxRecDepth 100000 in
theorem sig_any (a : Option Addr) (cap : Nat) (xs : List Nat) (w : World) (h : Rd w a cap xs) :
    Calls Tryz.prog 115 #[.slice a xs.length cap] w fun e w' => e = .returned (.slice a (strip xs).length cap) ∧ w = w' := by
  have hc2 : xs.length ≤ cap := h.2.1
  have hc3 : cap ≤ maxLen := h.2.2.1
  unfold maxLen at hc3
  rcases h.2.2.2.2 with rfl | ⟨b, off, rfl, hb, hc⟩
  · go_enter Tryz.func115, Tryz.ntmps115
    go_wp2
    go_loop [3] (fun n => n = .int .i64 0) (fun n => (intOf n).toNat)
    case atStart => rfl
    case round =>
      subst hrel
      go_wp2
      all_goals
        go_ret
        exact ⟨ret_slice (by simp [Addr.add]) rfl rfl, rfl⟩
  · clear h
    go_enter Tryz.func115, Tryz.ntmps115
    go_wp2
    go_loop [3] (fun n => ∃ k : Nat, k ≤ xs.length ∧ n = .int .i64 k ∧ strip (xs.take k) = strip xs) (fun n => (intOf n).toNat)
    case atStart => exact ⟨xs.length, Nat.le_refl _, rfl, by rw [List.take_length]⟩
    case round =>
      obtain ⟨k, hk, rfl, hst⟩ := hrel
      have HS : Hid (strip (xs.take k) = strip xs) := hst
      clear hst
      by_cases hk0 : k = 0
      · subst hk0
        go_wp2
        go_ret
        exact ⟨ret_slice rfl (by rw [← HS.out]; rfl) rfl, rfl⟩
      · obtain ⟨j, rfl⟩ : ∃ j, k = j + 1 := ⟨k - 1, by omega⟩
        have hcj := hc j (by omega)
        obtain ⟨x, hx⟩ : ∃ x, xs.getD j 0 = x := ⟨_, rfl⟩
        rw [hx] at hcj
        have HX : Hid (xs.getD j 0 = x) := hx
        clear hx hc
        by_cases hx0 : x = 0
        · subst hx0
          go_wp2
          go_round
          case rel => exact ⟨j, by omega, rfl, by rw [← HS.out, strip_take_zero xs j (by omega) HX.out]⟩
          case measure => simp [intOf]
        · have hx1 : ((x : Int) == 0) = false := by simp; omega
          go_wp2
          go_ret
          have e : strip xs = xs.take (j + 1) := by rw [← HS.out]; exact strip_take_some xs j (by omega) (by rw [HX.out]; exact hx0)
          exact ⟨ret_slice rfl (by rw [e]; simp; omega) rfl, rfl⟩

end Go.Proofs.YtchdoakoelfenaaGreat

namespace Go.Proofs.YtchdoakoelfenaaGreat
open Go.RowKit
set_option linter.unusedSimpArgs false
set_option linter.unusedVariables false

theorem info_limb : (Tryz.prog.info? 136).map (fun i => (i.zero, i.size, i.bytes)) = some (some (.int .u32 0), 1, 4) := by kernel_rfl

set_option maxHeartbeats 400000 in
set_option maxRecDepth 100000 in
theorem trim_any (a : Option Addr) (cap : Nat) (xs : List Nat) (w : World) (h : Rd w a cap xs) (hl : xs.length ≤ 1000000000) :
    Calls Tryz.prog 102 #[.slice a xs.length cap] w fun e w' => ∃ a' cap', e = .returned (.slice a' (strip xs).length cap') ∧ Res 136 w.heap.size w' a' cap' (strip xs) ∧ Below w.heap.size w w' := by
  obtain ⟨i0, hi, hz0, hz1, hz2⟩ := info_parts info_limb
  have hsl := strip_length_le xs
  go_enter Tryz.func102, Tryz.ntmps102
  go_wp2_with fail
  refine (sig_any a cap xs _ (h.below ((Below.refl _ _).alloc (Nat.le_refl _) _))).mono ?_
  rintro e w' ⟨rfl, hw⟩
  subst hw
  go_wp2_with (at_builtin; refine wpList_append_rd rfl _ _ 107 rfl w.heap.size 136 i0 Tryz.underlying107 hi hz0 hz1 hz2 _ 0 [] rfl ?_ a cap _ (strip xs) rfl rfl ?_ ?_ ?_ ?_)
  · exact World.ownsRow_made w #[] 0 (Nat.le_refl _) (Nat.zero_le _) rfl
  · exact h.strip.below ((Below.refl _ _).alloc (Nat.le_refl _) _)
  · omega
  · simp
  · intro v' w1 hown hgrow
    obtain ⟨a', cap', rfl, hres⟩ := Res.of h.lim.strip hown
    go_wp2
    go_ret
    exact ⟨a', cap', rfl, hres, ((Below.refl _ _).alloc (Nat.le_refl _) _).grown hgrow (by simp) (fun k hk => by simp [Value.ownBlock] at hk; omega)⟩

set_option maxHeartbeats 400000 in
set_option maxRecDepth 100000 in
theorem of_any (n : Nat) (w : World) (hn : n < 18446744073709551616) :
    Calls Tryz.prog 87 #[.int .u64 (n : Int)] w fun e w' => ∃ a cap ys, e = .returned (.slice a ys.length cap) ∧ V ys = n ∧ Tr ys ∧ Res 136 w.heap.size w' a cap ys ∧ Below w.heap.size w w' := by
  go_enter Tryz.func87, Tryz.ntmps87
  go_wp2_with fail
  have hrd := rd_new w 136 [n % 4294967296, n / 4294967296] #[Value.int IntKind.u32 (↑n % 4294967296), Value.int IntKind.u32 (↑n / 4294967296)] (by simp [U]) (Lim.mk (by omega) (Lim.mk (by omega) Lim.nil)) (by simp [maxLen])
  refine (trim_any (some ⟨w.heap.size, 0, none⟩) 2 [n % 4294967296, n / 4294967296] _ hrd (by simp)).mono ?_
  rintro e w' ⟨a, cap, rfl, hres, hb⟩
  go_wp2
  go_ret
  refine ⟨a, cap, _, rfl, ?_, tr_strip _, hres.mono (by simp), ((Below.refl _ _).alloc (Nat.le_refl _) _).trans (hb.mono (by simp))⟩
  rw [V_strip]; simp only [V]; omega

end Go.Proofs.YtchdoakoelfenaaGreat
