/-
  Features and swaps: formed, conds that hold, the lookups of a feature, the lookups that are chosen (plain mathematics).
  Bytes of features and swaps: what is written, what is read, there and back (plain mathematics).
-/
import Derived.Test.YtaejlopkdkaphaaZE5
import Derived.Test.YtaejlopkdkaphaaZE4
import Derived.Test.YtaejlopkdkaphaaZE3
namespace Go.Proofs.Ytaejlopkdkaphaa
set_option linter.unusedSimpArgs false
set_option linter.unusedVariables false

/-- A feature: its tag, its lookups. -/
structure Ft where
  tg : ByteArray
  lk : List Int
def Ft.none : Ft := ⟨⟨#[]⟩, []⟩
/-- A cond: the axis, from, to. -/
structure Cn where
  ax : Int
  ls : Int
  ms : Int
def Cn.none : Cn := ⟨0, 0, 0⟩
/-- A swap: its conds, the feature, the lookups. -/
structure Sw where
  cn : List Cn
  ft : Int
  lk : List Int
def Sw.none : Sw := ⟨[], 0, []⟩
theorem allF_iff {α : Type} {l : List α} {e : α} {p : α → Bool} : l.all p = true ↔ ∀ k, k < l.length → p (l.getD k e) = true := by
  rw [List.all_eq_true]
  constructor
  · intro h k hk
    refine h _ ?_
    rw [List.getD_eq_getElem?_getD, List.getElem?_eq_getElem hk]
    exact List.getElem_mem hk
  · intro h x hx
    obtain ⟨k, hk, e1⟩ := List.getElem_of_mem hx
    have := h k hk
    rw [List.getD_eq_getElem?_getD, List.getElem?_eq_getElem hk, Option.getD_some, e1] at this
    exact this
theorem allF_no {α : Type} {l : List α} {e : α} {p : α → Bool} {k : Nat} (hk : k < l.length) (h : p (l.getD k e) = false) : l.all p = false := by
  cases hf : l.all p with
  | false => rfl
  | true =>
    have := (allF_iff (e := e)).1 hf k hk
    rw [h] at this
    cases this
/-- Lookups' numbers, formed. -/
def nlF (n : Int) (l : List Int) : Bool := decide (l.length ≤ 10) && l.all (fun x => decide (0 ≤ x) && decide (x < n))
theorem nlF_iff {n : Int} {l : List Int} : nlF n l = true ↔ l.length ≤ 10 ∧ ∀ k, k < l.length → 0 ≤ l.getD k 0 ∧ l.getD k 0 < n := by
  unfold nlF
  rw [Bool.and_eq_true, decide_eq_true_iff, allF_iff (e := (0 : Int))]
  simp only [Bool.and_eq_true, decide_eq_true_iff]
theorem nlF_mem {n : Int} {l : List Int} (h : nlF n l = true) : ∀ x ∈ l, 0 ≤ x ∧ x < n := by
  intro x hx
  obtain ⟨k, hk, e⟩ := List.getElem_of_mem hx
  have := (nlF_iff.1 h).2 k hk
  rw [List.getD_eq_getElem?_getD, List.getElem?_eq_getElem hk, Option.getD_some, e] at this
  exact this
theorem nlF_long {n : Int} {l : List Int} (h : 10 < l.length) : nlF n l = false := by unfold nlF; rw [decide_eq_false (by omega)]; rfl
theorem nlF_bad {n : Int} {l : List Int} {k : Nat} (hk : k < l.length) (h : ¬ (0 ≤ l.getD k 0 ∧ l.getD k 0 < n)) : nlF n l = false := by
  cases hf : nlF n l with
  | false => rfl
  | true => exact absurd ((nlF_iff.1 hf).2 k hk) h
/-- A coordinate. -/
def coFt (z : Int) : Bool := decide (-16384 ≤ z ∧ z ≤ 16384)
def cnF (axes : Int) (c : Cn) : Bool := (decide (0 ≤ c.ax) && decide (c.ax < axes)) && ((coFt c.ls && coFt c.ms) && decide (c.ls ≤ c.ms))
def swF (nf n axes : Int) (s : Sw) : Bool := (decide (s.cn.length ≤ 4) && s.cn.all (cnF axes)) && ((decide (0 ≤ s.ft) && decide (s.ft < nf)) && nlF n s.lk)
def ftF (n : Int) (f : Ft) : Bool := gd (sb f.tg) && nlF n f.lk
/-- Features and swaps, formed. -/
def foFt (l : List Ft) (s : List Sw) (n axes : Int) : Bool := (decide (l.length ≤ 10) && decide (s.length ≤ 6)) && (l.all (ftF n) && s.all (swF (l.length : Int) n axes))
theorem cnF_iff {axes : Int} {c : Cn} : cnF axes c = true ↔ (0 ≤ c.ax ∧ c.ax < axes) ∧ ((-16384 ≤ c.ls ∧ c.ls ≤ 16384) ∧ (-16384 ≤ c.ms ∧ c.ms ≤ 16384)) ∧ c.ls ≤ c.ms := by
  unfold cnF coFt
  simp only [Bool.and_eq_true, decide_eq_true_iff]
theorem swF_iff {nf n axes : Int} {s : Sw} : swF nf n axes s = true ↔ (s.cn.length ≤ 4 ∧ ∀ k, k < s.cn.length → cnF axes (s.cn.getD k Cn.none) = true) ∧ (0 ≤ s.ft ∧ s.ft < nf) ∧ nlF n s.lk = true := by
  unfold swF
  rw [Bool.and_eq_true, Bool.and_eq_true, Bool.and_eq_true, Bool.and_eq_true, decide_eq_true_iff, decide_eq_true_iff, decide_eq_true_iff, allF_iff (e := Cn.none)]
theorem swF_mem {nf n axes : Int} {s : Sw} (h : swF nf n axes s = true) : ∀ c ∈ s.cn, cnF axes c = true := by
  unfold swF at h
  rw [Bool.and_eq_true, Bool.and_eq_true, List.all_eq_true] at h
  exact h.1.2
theorem ftF_iff {n : Int} {f : Ft} : ftF n f = true ↔ gd (sb f.tg) = true ∧ nlF n f.lk = true := by unfold ftF; rw [Bool.and_eq_true]
theorem foFt_iff {l : List Ft} {s : List Sw} {n axes : Int} : foFt l s n axes = true ↔ (l.length ≤ 10 ∧ s.length ≤ 6) ∧ (∀ k, k < l.length → ftF n (l.getD k Ft.none) = true) ∧ ∀ k, k < s.length → swF (l.length : Int) n axes (s.getD k Sw.none) = true := by
  unfold foFt
  rw [Bool.and_eq_true, Bool.and_eq_true, Bool.and_eq_true, decide_eq_true_iff, decide_eq_true_iff, allF_iff (e := Ft.none), allF_iff (e := Sw.none)]
theorem foFt_mem {l : List Ft} {s : List Sw} {n axes : Int} (h : foFt l s n axes = true) : (∀ f ∈ l, ftF n f = true) ∧ ∀ x ∈ s, swF (l.length : Int) n axes x = true := by
  unfold foFt at h
  rw [Bool.and_eq_true, Bool.and_eq_true, Bool.and_eq_true, List.all_eq_true, List.all_eq_true] at h
  exact h.2
theorem foFt_long {l : List Ft} {s : List Sw} {n axes : Int} (h : 10 < l.length ∨ 6 < s.length) : foFt l s n axes = false := by
  cases hf : foFt l s n axes with
  | false => rfl
  | true => have := (foFt_iff.1 hf).1; omega
theorem foFt_bad1 {l : List Ft} {s : List Sw} {n axes : Int} {k : Nat} (hk : k < l.length) (h : ftF n (l.getD k Ft.none) = false) : foFt l s n axes = false := by
  cases hf : foFt l s n axes with
  | false => rfl
  | true => rw [(foFt_iff.1 hf).2.1 k hk] at h; cases h
theorem foFt_bad2 {l : List Ft} {s : List Sw} {n axes : Int} {k : Nat} (hk : k < s.length) (h : swF (l.length : Int) n axes (s.getD k Sw.none) = false) : foFt l s n axes = false := by
  cases hf : foFt l s n axes with
  | false => rfl
  | true => rw [(foFt_iff.1 hf).2.2 k hk] at h; cases h

/-- A cond that holds, conds that do. -/
def hoC (cs : List Int) (c : Cn) : Bool := decide (0 ≤ c.ax) && (decide (c.ls ≤ cs.getD c.ax.toNat 0) && decide (cs.getD c.ax.toNat 0 ≤ c.ms))
def hoB (cs : List Int) (l : List Cn) : Bool := l.all (hoC cs)
theorem hoC_iff {cs : List Int} {c : Cn} : hoC cs c = true ↔ 0 ≤ c.ax ∧ c.ls ≤ cs.getD c.ax.toNat 0 ∧ cs.getD c.ax.toNat 0 ≤ c.ms := by
  unfold hoC
  rw [Bool.and_eq_true, Bool.and_eq_true, decide_eq_true_iff, decide_eq_true_iff, decide_eq_true_iff]
theorem hoB_iff {cs : List Int} {l : List Cn} : hoB cs l = true ↔ ∀ k, k < l.length → hoC cs (l.getD k Cn.none) = true := allF_iff
theorem hoB_no {cs : List Int} {l : List Cn} {k : Nat} (hk : k < l.length) (h : hoC cs (l.getD k Cn.none) = false) : hoB cs l = false := allF_no hk h
theorem hoB_one (cs : List Int) (c : Cn) : hoB cs [c] = hoC cs c := by simp [hoB]
/-- The first swap of a feature all of whose conds hold. -/
def fsS (cs : List Int) (n : Int) : List Sw → Option (List Int)
  | [] => none
  | s :: t => if s.ft = n ∧ hoB cs s.cn = true then some s.lk else fsS cs n t
theorem fsS_skip {cs : List Int} {n : Int} {l : List Sw} {k : Nat} (hk : k < l.length) (h : ¬ ((l.getD k Sw.none).ft = n ∧ hoB cs (l.getD k Sw.none).cn = true)) : fsS cs n (l.drop k) = fsS cs n (l.drop (k + 1)) := by
  rw [List.getD_eq_getElem?_getD, List.getElem?_eq_getElem hk, Option.getD_some] at h
  rw [List.drop_eq_getElem_cons hk, fsS, if_neg h]
theorem fsS_met {cs : List Int} {n : Int} {l : List Sw} {k : Nat} (hk : k < l.length) (h : (l.getD k Sw.none).ft = n ∧ hoB cs (l.getD k Sw.none).cn = true) : fsS cs n (l.drop k) = some (l.getD k Sw.none).lk := by
  rw [List.getD_eq_getElem?_getD, List.getElem?_eq_getElem hk, Option.getD_some] at h ⊢
  rw [List.drop_eq_getElem_cons hk, fsS, if_pos h]
theorem fsS_end {cs : List Int} {n : Int} {l : List Sw} : fsS cs n (l.drop l.length) = none := by rw [List.drop_length]; rfl
theorem fsS_of {cs : List Int} {n : Int} : ∀ {l : List Sw} {x : List Int}, fsS cs n l = some x → ∃ s ∈ l, x = s.lk := by
  intro l
  induction l with
  | nil => intro x h; cases h
  | cons s t ih =>
    intro x h
    rw [fsS] at h
    split at h
    · injection h with h; exact ⟨s, List.mem_cons_self .., h.symm⟩
    · obtain ⟨s', h1, h2⟩ := ih h; exact ⟨s', List.mem_cons_of_mem _ h1, h2⟩
/-- The lookups of a feature. -/
def lkQ (l : List Ft) (sw : List Sw) (n : Int) (cs : List Int) : List Int := if 0 ≤ n ∧ n < (l.length : Int) then (match fsS cs n sw with | none => (l.getD n.toNat Ft.none).lk | some x => x) else []
theorem lkQ_out {l : List Ft} {sw : List Sw} {n : Int} {cs : List Int} (h : ¬ (0 ≤ n ∧ n < (l.length : Int))) : lkQ l sw n cs = [] := by unfold lkQ; rw [if_neg h]
theorem lkQ_own {l : List Ft} {sw : List Sw} {n : Int} {cs : List Int} (h : 0 ≤ n ∧ n < (l.length : Int)) (h2 : fsS cs n sw = none) : lkQ l sw n cs = (l.getD n.toNat Ft.none).lk := by unfold lkQ; rw [if_pos h, h2]
theorem lkQ_sw {l : List Ft} {sw : List Sw} {n : Int} {cs : List Int} {x : List Int} (h : 0 ≤ n ∧ n < (l.length : Int)) (h2 : fsS cs n sw = some x) : lkQ l sw n cs = x := by unfold lkQ; rw [if_pos h, h2]
/-- Whatever all lookups' lists have, the lookups of a feature have. -/
theorem lkQ_all {p : List Int → Prop} {l : List Ft} {sw : List Sw} {n : Int} {cs : List Int} (h0 : p []) (h1 : ∀ f ∈ l, p f.lk) (h2 : ∀ s ∈ sw, p s.lk) : p (lkQ l sw n cs) := by
  unfold lkQ
  by_cases h : 0 ≤ n ∧ n < (l.length : Int)
  · rw [if_pos h]
    cases hf : fsS cs n sw with
    | none =>
      have hn : n.toNat < l.length := by omega
      show p (l.getD n.toNat Ft.none).lk
      rw [List.getD_eq_getElem?_getD, List.getElem?_eq_getElem hn]
      exact h1 _ (List.getElem_mem hn)
    | some x =>
      obtain ⟨s, hs, e⟩ := fsS_of hf
      show p x
      rw [e]
      exact h2 s hs
  · rw [if_neg h]; exact h0

/-- Rising numbers. -/
def riT (l : List Int) : Prop := l.Pairwise (· < ·)
theorem riT_nil : riT [] := List.Pairwise.nil
theorem riT_cons {x : Int} {t : List Int} : riT (x :: t) ↔ (∀ y ∈ t, x < y) ∧ riT t := List.pairwise_cons
theorem riT_lt {l : List Int} (h : riT l) {i j : Nat} (hij : i < j) (hj : j < l.length) : l.getD i 0 < l.getD j 0 := by
  have h1 := List.pairwise_iff_getElem.1 h i j (by omega) hj hij
  rw [List.getD_eq_getElem?_getD, List.getElem?_eq_getElem (show i < l.length by omega), List.getD_eq_getElem?_getD, List.getElem?_eq_getElem hj]
  exact h1
theorem riT_uniq : ∀ {l m : List Int}, riT l → riT m → (∀ x, x ∈ l ↔ x ∈ m) → l = m := by
  intro l
  induction l with
  | nil =>
    intro m _ _ h
    cases m with
    | nil => rfl
    | cons y t => have := (h y).2 (List.mem_cons_self ..); cases this
  | cons x l ih =>
    intro m hl hm h
    cases m with
    | nil => have := (h x).1 (List.mem_cons_self ..); cases this
    | cons y t =>
      obtain ⟨h1, h2⟩ := riT_cons.1 hl
      obtain ⟨h3, h4⟩ := riT_cons.1 hm
      have e : x = y := by
        have a1 := (h x).1 (List.mem_cons_self ..)
        have a2 := (h y).2 (List.mem_cons_self ..)
        rcases List.mem_cons.1 a1 with a1 | a1
        · exact a1
        rcases List.mem_cons.1 a2 with a2 | a2
        · exact a2.symm
        have b1 := h3 x a1
        have b2 := h1 y a2
        omega
      subst e
      rw [ih h2 h4 (fun z => ?_)]
      constructor
      · intro hz
        rcases List.mem_cons.1 ((h z).1 (List.mem_cons_of_mem _ hz)) with e | e
        · have := h1 z hz; omega
        · exact e
      · intro hz
        rcases List.mem_cons.1 ((h z).2 (List.mem_cons_of_mem _ hz)) with e | e
        · have := h3 z hz; omega
        · exact e
/-- A number into rising ones, where it isn't there. -/
def puT (n : Int) : List Int → List Int
  | [] => [n]
  | x :: t => if x < n then x :: puT n t else if x = n then x :: t else n :: x :: t
theorem puT_mem {n : Int} : ∀ {l : List Int} {z : Int}, z ∈ puT n l ↔ z = n ∨ z ∈ l := by
  intro l
  induction l with
  | nil => intro z; simp [puT]
  | cons x t ih =>
    intro z
    rw [puT]
    split
    · rw [List.mem_cons, List.mem_cons, ih]
      constructor
      · rintro (h | h | h)
        · exact .inr (.inl h)
        · exact .inl h
        · exact .inr (.inr h)
      · rintro (h | h | h)
        · exact .inr (.inl h)
        · exact .inl h
        · exact .inr (.inr h)
    · split
      · next h1 h2 =>
        rw [List.mem_cons]
        constructor
        · intro h; exact .inr h
        · rintro (h | h)
          · exact .inl (by rw [h, h2])
          · exact h
      · rw [List.mem_cons, List.mem_cons]
theorem puT_ri {n : Int} : ∀ {l : List Int}, riT l → riT (puT n l) := by
  intro l
  induction l with
  | nil => intro _; exact riT_cons.2 ⟨fun y hy => (by cases hy), riT_nil⟩
  | cons x t ih =>
    intro h
    obtain ⟨h1, h2⟩ := riT_cons.1 h
    rw [puT]
    split
    · next hx =>
      refine riT_cons.2 ⟨fun y hy => ?_, ih h2⟩
      rcases puT_mem.1 hy with e | e
      · rw [e]; exact hx
      · exact h1 y e
    · next hx =>
      split
      · exact h
      · next hy =>
        refine riT_cons.2 ⟨fun y hy2 => ?_, h⟩
        rcases List.mem_cons.1 hy2 with e | e
        · rw [e]; omega
        · have := h1 y e; omega
/-- How a loop puts it: the place is found. -/
theorem puT_at {n : Int} : ∀ {l : List Int} {k : Nat}, k ≤ l.length → (∀ j, j < k → l.getD j 0 < n) → (k < l.length → ¬ l.getD k 0 < n) → puT n l = l.take k ++ n :: l.drop (if k < l.length ∧ l.getD k 0 = n then k + 1 else k) := by
  intro l
  induction l with
  | nil =>
    intro k hk _ _
    obtain rfl : k = 0 := by simpa using hk
    rfl
  | cons x t ih =>
    intro k hk h1 h2
    cases k with
    | zero =>
      have hx : ¬ x < n := h2 (by simp)
      rw [puT, if_neg hx]
      by_cases e : x = n
      · subst e
        rw [if_pos rfl, if_pos ⟨by simp, rfl⟩]
        rfl
      · rw [if_neg e, if_neg (fun h => e h.2)]
        rfl
    | succ k =>
      have hx : x < n := h1 0 (by omega)
      rw [puT, if_pos hx, ih (k := k) (by simpa using hk) (fun j hj => h1 (j + 1) (by omega)) (fun hk2 => h2 (by simpa using hk2))]
      have e : (k + 1 < (x :: t).length ∧ (x :: t).getD (k + 1) 0 = n) ↔ (k < t.length ∧ t.getD k 0 = n) := by
        rw [List.length_cons, List.getD_cons_succ]
        exact ⟨fun h => ⟨by omega, h.2⟩, fun h => ⟨by omega, h.2⟩⟩
      by_cases hh : k < t.length ∧ t.getD k 0 = n
      · rw [if_pos hh, if_pos (e.2 hh)]
        rfl
      · rw [if_neg hh, if_neg (fun h => hh (e.1 h))]
        rfl
/-- Is a text among others? -/
def hasT (on : List ByteArray) (t : ByteArray) : Bool := on.any (fun s => decide (s = t))
theorem hasT_iff {on : List ByteArray} {t : ByteArray} : hasT on t = true ↔ t ∈ on := by
  unfold hasT
  rw [List.any_eq_true]
  constructor
  · rintro ⟨x, hx, e⟩
    rw [decide_eq_true_iff] at e
    rw [← e]
    exact hx
  · intro h
    exact ⟨t, h, decide_eq_true rfl⟩
def adT (out x : List Int) : List Int := x.foldl (fun o n => puT n o) out
theorem adT_mem : ∀ {x out : List Int} {z : Int}, z ∈ adT out x ↔ z ∈ x ∨ z ∈ out := by
  intro x
  induction x with
  | nil => intro out z; simp [adT]
  | cons n t ih =>
    intro out z
    show z ∈ adT (puT n out) t ↔ _
    rw [ih, puT_mem, List.mem_cons]
    constructor
    · rintro (h | h | h)
      · exact .inl (.inr h)
      · exact .inl (.inl h)
      · exact .inr h
    · rintro ((h | h) | h)
      · exact .inr (.inl h)
      · exact .inl h
      · exact .inr (.inr h)
theorem adT_ri : ∀ {x out : List Int}, riT out → riT (adT out x) := by
  intro x
  induction x with
  | nil => intro out h; exact h
  | cons n t ih => intro out h; exact ih (puT_ri h)
theorem adT_succ {out x : List Int} {k : Nat} (hk : k < x.length) : adT out (x.take (k + 1)) = puT (x.getD k 0) (adT out (x.take k)) := by
  unfold adT
  rw [List.take_add_one, List.getElem?_eq_getElem hk, List.foldl_append, List.getD_eq_getElem?_getD, List.getElem?_eq_getElem hk]
  rfl
/-- The lookups that the first k features bring. -/
def chT (l : List Ft) (sw : List Sw) (cs : List Int) (on : List ByteArray) : Nat → List Int
  | 0 => []
  | k + 1 => if hasT on (l.getD k Ft.none).tg then adT (chT l sw cs on k) (lkQ l sw (k : Int) cs) else chT l sw cs on k
def chFt (l : List Ft) (sw : List Sw) (cs : List Int) (on : List ByteArray) : List Int := chT l sw cs on l.length
theorem chT_ri (l : List Ft) (sw : List Sw) (cs : List Int) (on : List ByteArray) (k : Nat) : riT (chT l sw cs on k) := by
  induction k with
  | zero => exact riT_nil
  | succ k ih =>
    rw [chT]
    split
    · exact adT_ri ih
    · exact ih
theorem chT_mem {l : List Ft} {sw : List Sw} {cs : List Int} {on : List ByteArray} {k : Nat} {z : Int} : z ∈ chT l sw cs on k ↔ ∃ j, j < k ∧ (l.getD j Ft.none).tg ∈ on ∧ z ∈ lkQ l sw (j : Int) cs := by
  induction k with
  | zero =>
    constructor
    · intro h; cases h
    · rintro ⟨j, hj, _⟩; omega
  | succ k ih =>
    rw [chT]
    cases hh : hasT on (l.getD k Ft.none).tg with
    | false =>
      rw [if_neg (by decide), ih]
      constructor
      · rintro ⟨j, hj, h⟩; exact ⟨j, by omega, h⟩
      · rintro ⟨j, hj, h1, h2⟩
        refine ⟨j, ?_, h1, h2⟩
        rcases Nat.lt_or_ge j k with h3 | h3
        · exact h3
        · rw [show j = k by omega] at h1
          rw [hasT_iff.2 h1] at hh
          cases hh
    | true =>
      rw [if_pos rfl, adT_mem, ih]
      constructor
      · rintro (h | ⟨j, hj, h⟩)
        · exact ⟨k, by omega, hasT_iff.1 hh, h⟩
        · exact ⟨j, by omega, h⟩
      · rintro ⟨j, hj, h1, h2⟩
        rcases Nat.lt_or_ge j k with h3 | h3
        · exact .inr ⟨j, h3, h1, h2⟩
        · rw [show j = k by omega] at h2
          exact .inl h2
theorem chFt_ri (l : List Ft) (sw : List Sw) (cs : List Int) (on : List ByteArray) : riT (chFt l sw cs on) := chT_ri ..
theorem chFt_mem {l : List Ft} {sw : List Sw} {cs : List Int} {on : List ByteArray} {z : Int} : z ∈ chFt l sw cs on ↔ ∃ j, j < l.length ∧ (l.getD j Ft.none).tg ∈ on ∧ z ∈ lkQ l sw (j : Int) cs := chT_mem
/-- Rising numbers that are the chosen ones, whichever way they came. -/
theorem chFt_uniq {l : List Ft} {sw : List Sw} {cs : List Int} {on : List ByteArray} {m : List Int} (h : riT m) (hm : ∀ z, z ∈ m ↔ ∃ j, j < l.length ∧ (l.getD j Ft.none).tg ∈ on ∧ z ∈ lkQ l sw (j : Int) cs) : m = chFt l sw cs on := riT_uniq h (chFt_ri ..) (fun z => (hm z).trans chFt_mem.symm)
/-- FeatsTags. -/
theorem chFt_same {l : List Ft} {sw : List Sw} {cs : List Int} {on on2 : List ByteArray} (h : ∀ t, t ∈ on ↔ t ∈ on2) : chFt l sw cs on = chFt l sw cs on2 :=
  riT_uniq (chFt_ri ..) (chFt_ri ..) (fun z => by
    rw [chFt_mem, chFt_mem]
    constructor
    · rintro ⟨j, h1, h2, h3⟩; exact ⟨j, h1, (h _).1 h2, h3⟩
    · rintro ⟨j, h1, h2, h3⟩; exact ⟨j, h1, (h _).2 h2, h3⟩)
theorem chFt_turned {l : List Ft} {sw : List Sw} {cs : List Int} {on : List ByteArray} : chFt l sw cs (on.reverse ++ on) = chFt l sw cs on := chFt_same (fun t => by simp)
theorem chFt_more {l : List Ft} {sw : List Sw} {cs : List Int} {on on2 : List ByteArray} (h : ∀ t ∈ on, t ∈ on2) : ∀ z ∈ chFt l sw cs on, z ∈ chFt l sw cs on2 := fun z hz => by
  obtain ⟨j, h1, h2, h3⟩ := chFt_mem.1 hz
  exact chFt_mem.2 ⟨j, h1, h _ h2, h3⟩
/-- How far the shorter list is gone through when the first i of the longer are. -/
structure GrT (a m : List Int) (i k : Nat) : Prop where
  le : k ≤ m.length
  inn : ∀ j, j < k → m.getD j 0 ∈ a.take i
  out : ∀ j, k ≤ j → j < m.length → m.getD j 0 ∉ a.take i
theorem take_memT {a : List Int} {i : Nat} {z : Int} : z ∈ a.take i ↔ ∃ j, j < i ∧ j < a.length ∧ a.getD j 0 = z := by
  constructor
  · intro h
    obtain ⟨j, hj, e⟩ := List.getElem_of_mem h
    rw [List.length_take] at hj
    refine ⟨j, by omega, by omega, ?_⟩
    rw [List.getElem_take] at e
    rw [List.getD_eq_getElem?_getD, List.getElem?_eq_getElem (by omega)]
    exact e
  · rintro ⟨j, h1, h2, e⟩
    rw [List.getD_eq_getElem?_getD, List.getElem?_eq_getElem h2, Option.getD_some] at e
    rw [← e]
    have : (a.take i)[j]'(by rw [List.length_take]; omega) = a[j] := List.getElem_take
    rw [← this]
    exact List.getElem_mem _
theorem GrT.zero (a m : List Int) : GrT a m 0 0 := ⟨Nat.zero_le _, fun j hj => by omega, fun j _ _ h => by simp at h⟩
theorem GrT.step {a m : List Int} {i k : Nat} (h : GrT a m i k) (ha : riT a) (hm : riT m) (hs : ∀ z ∈ m, z ∈ a) (hi : i < a.length) : GrT a m (i + 1) (if k < m.length ∧ m.getD k 0 = a.getD i 0 then k + 1 else k) := by
  by_cases hk : k < m.length ∧ m.getD k 0 = a.getD i 0
  · rw [if_pos hk]
    refine ⟨hk.1, fun j hj => ?_, fun j h1 h2 h3 => ?_⟩
    · rcases Nat.lt_or_ge j k with h4 | h4
      · obtain ⟨q, q1, q2, e⟩ := take_memT.1 (h.inn j h4)
        exact take_memT.2 ⟨q, by omega, q2, e⟩
      · rw [show j = k by omega, hk.2]
        exact take_memT.2 ⟨i, by omega, hi, rfl⟩
    · obtain ⟨q, q1, q2, e⟩ := take_memT.1 h3
      rcases Nat.lt_or_ge q i with h4 | h4
      · exact h.out j (by omega) h2 (take_memT.2 ⟨q, h4, q2, e⟩)
      · rw [show q = i by omega, ← hk.2] at e
        have := riT_lt hm (show k < j by omega) h2
        omega
  · rw [if_neg hk]
    refine ⟨h.le, fun j hj => ?_, fun j h1 h2 h3 => ?_⟩
    · obtain ⟨q, q1, q2, e⟩ := take_memT.1 (h.inn j hj)
      exact take_memT.2 ⟨q, by omega, q2, e⟩
    · obtain ⟨q, q1, q2, e⟩ := take_memT.1 h3
      rcases Nat.lt_or_ge q i with h4 | h4
      · exact h.out j h1 h2 (take_memT.2 ⟨q, h4, q2, e⟩)
      · rw [show q = i by omega] at e
        have hkl : k < m.length := by omega
        rcases Nat.lt_or_ge k j with h5 | h5
        · have h6 := riT_lt hm h5 h2
          have h7 : m.getD k 0 ∈ m := by rw [List.getD_eq_getElem?_getD, List.getElem?_eq_getElem hkl]; exact List.getElem_mem hkl
          have h8 := hs _ h7
          obtain ⟨r, r1, e2⟩ := List.getElem_of_mem h8
          have e3 : a.getD r 0 = m.getD k 0 := by rw [List.getD_eq_getElem?_getD, List.getElem?_eq_getElem r1]; exact e2
          have h9 : r < i := by
            rcases Nat.lt_or_ge r i with h9 | h9
            · exact h9
            · rcases Nat.lt_or_ge i r with h10 | h10
              · have := riT_lt ha h10 r1; omega
              · rw [show r = i by omega] at e3; omega
          exact h.out k (Nat.le_refl _) hkl (take_memT.2 ⟨r, h9, r1, e3⟩)
        · rw [show j = k by omega] at e
          exact hk ⟨hkl, e.symm⟩
theorem GrT.all {a m : List Int} {k : Nat} (h : GrT a m a.length k) (hs : ∀ z ∈ m, z ∈ a) : k = m.length := by
  have h1 := h.le
  rcases Nat.lt_or_ge k m.length with h2 | h2
  · have h3 : m.getD k 0 ∈ m := by rw [List.getD_eq_getElem?_getD, List.getElem?_eq_getElem h2]; exact List.getElem_mem h2
    have h4 := hs _ h3
    exact absurd (by rw [List.take_length]; exact h4) (h.out k (Nat.le_refl _) h2)
  · omega

end Go.Proofs.Ytaejlopkdkaphaa

namespace Go.Proofs.Ytaejlopkdkaphaa
set_option linter.unusedSimpArgs false
set_option linter.unusedVariables false

/-- n of them, one behind the other: what they are, how many bytes. -/
def mnV {α : Type} (f : List Nat → α) (u : List Nat → Nat) : Nat → List Nat → List α
  | 0, _ => []
  | n + 1, b => f b :: mnV f u n (b.drop (u b))
def mnU (u : List Nat → Nat) : Nat → List Nat → Nat
  | 0, _ => 0
  | n + 1, b => u b + mnU u n (b.drop (u b))
theorem mnV_len {α : Type} {f : List Nat → α} {u : List Nat → Nat} : ∀ (n : Nat) (b : List Nat), (mnV f u n b).length = n := by
  intro n
  induction n with
  | zero => intro b; rfl
  | succ n ih => intro b; rw [mnV, List.length_cons, ih]
theorem mnV_succ {α : Type} {f : List Nat → α} {u : List Nat → Nat} : ∀ (n : Nat) (b : List Nat), mnV f u (n + 1) b = mnV f u n b ++ [f (b.drop (mnU u n b))] ∧ mnU u (n + 1) b = mnU u n b + u (b.drop (mnU u n b)) := by
  intro n
  induction n with
  | zero => intro b; exact ⟨rfl, by simp [mnU]⟩
  | succ n ih =>
    intro b
    obtain ⟨h1, h2⟩ := ih (b.drop (u b))
    refine ⟨?_, ?_⟩
    · rw [mnV, h1, mnV, List.cons_append, List.drop_drop, mnU]
    · rw [mnU, h2, mnU, List.drop_drop]
      omega
theorem mnU_le {u : List Nat → Nat} {m : Nat} (hu : ∀ b, u b ≤ m) : ∀ (n : Nat) (b : List Nat), mnU u n b ≤ m * n := by
  intro n
  induction n with
  | zero => intro b; exact Nat.le_refl _
  | succ n ih =>
    intro b
    have h1 := ih (b.drop (u b))
    have h2 := hu b
    rw [mnU, Nat.mul_succ]
    omega
/-- A list: how many, at most one more than may be. -/
def ctV (most : Nat) (b : List Nat) : Nat := min (hd2 b) (most + 1)
def lsV {α : Type} (f : List Nat → α) (u : List Nat → Nat) (most : Nat) (b : List Nat) : List α := mnV f u (ctV most b) (b.drop 2)
def lsU (u : List Nat → Nat) (most : Nat) (b : List Nat) : Nat := 2 + mnU u (ctV most b) (b.drop 2)
theorem lsV_len {α : Type} {f : List Nat → α} {u : List Nat → Nat} {most : Nat} {b : List Nat} : (lsV f u most b).length = ctV most b := mnV_len ..
theorem lsU_le {u : List Nat → Nat} {m most : Nat} (hu : ∀ b, u b ≤ m) (b : List Nat) : lsU u most b ≤ 2 + m * (most + 1) := by
  have h1 := mnU_le hu (ctV most b) (b.drop 2)
  have h2 : m * ctV most b ≤ m * (most + 1) := Nat.mul_le_mul_left _ (by unfold ctV; omega)
  unfold lsU
  omega
def lsE {α : Type} (e : α → List Nat) (l : List α) : List Nat := be2 ((l.length : Nat) : Int) ++ l.flatMap e
/-- What is written is read. -/
theorem mn_back {α : Type} {f : List Nat → α} {u : List Nat → Nat} {e : α → List Nat} : ∀ (l : List α), (∀ x ∈ l, ∀ Z, f (e x ++ Z) = x ∧ u (e x ++ Z) = (e x).length) → ∀ Z, mnV f u l.length (l.flatMap e ++ Z) = l ∧ mnU u l.length (l.flatMap e ++ Z) = (l.flatMap e).length := by
  intro l
  induction l with
  | nil => intro _ Z; exact ⟨rfl, rfl⟩
  | cons x l ih =>
    intro h Z
    obtain ⟨h1, h2⟩ := h x (List.mem_cons_self ..) (l.flatMap e ++ Z)
    obtain ⟨h3, h4⟩ := ih (fun y hy => h y (List.mem_cons_of_mem _ hy)) Z
    have e1 : (x :: l).flatMap e ++ Z = e x ++ (l.flatMap e ++ Z) := by rw [List.flatMap_cons, List.append_assoc]
    have e2 : (e x ++ (l.flatMap e ++ Z)).drop (e x).length = l.flatMap e ++ Z := by rw [List.drop_left]
    rw [e1, List.length_cons, mnV, mnU, h1, h2, e2, h3, h4, List.flatMap_cons, List.length_append]
    exact ⟨rfl, rfl⟩
theorem ls_back {α : Type} {f : List Nat → α} {u : List Nat → Nat} {e : α → List Nat} {most : Nat} {l : List α} (hl : l.length ≤ most) (hm : most ≤ 65535) (h : ∀ x ∈ l, ∀ Z, f (e x ++ Z) = x ∧ u (e x ++ Z) = (e x).length) (Z : List Nat) : lsV f u most (lsE e l ++ Z) = l ∧ lsU u most (lsE e l ++ Z) = (lsE e l).length := by
  have e1 : lsE e l ++ Z = be2 ((l.length : Nat) : Int) ++ (l.flatMap e ++ Z) := by rw [lsE, List.append_assoc]
  have e2 : ctV most (lsE e l ++ Z) = l.length := by
    rw [ctV, e1, hd2_be2, V8_be2i' (by omega) (by omega)]
    omega
  obtain ⟨h1, h2⟩ := mn_back l h Z
  rw [lsV, lsU, e2, e1, drop_be2, h1, h2, lsE, List.length_append, be2L]
  exact ⟨rfl, rfl⟩
/-- What is read is written to its very bytes. -/
theorem mn_of {α : Type} {f : List Nat → α} {u : List Nat → Nat} {e : α → List Nat} {P : α → Prop} (hf : ∀ b, Byt b → u b ≤ b.length → P (f b) → e (f b) = b.take (u b)) : ∀ (n : Nat) (b : List Nat), Byt b → mnU u n b ≤ b.length → (∀ x ∈ mnV f u n b, P x) → (mnV f u n b).flatMap e = b.take (mnU u n b) := by
  intro n
  induction n with
  | zero => intro b _ _ _; rfl
  | succ n ih =>
    intro b hb hl hp
    rw [mnU] at hl
    have h1 := hf b hb (by omega) (hp _ (by rw [mnV]; exact List.mem_cons_self ..))
    have h2 := ih (b.drop (u b)) (hb.drop _) (by rw [List.length_drop]; omega) (fun x hx => hp x (by rw [mnV]; exact List.mem_cons_of_mem _ hx))
    rw [mnV, List.flatMap_cons, h1, h2, mnU, List.take_add]
theorem be_hd2 {b : List Nat} (hb : Byt b) (h : 2 ≤ b.length) : be2 ((hd2 b : Nat) : Int) = b.take 2 := by
  match b, h with
  | x :: y :: t, _ =>
    have := be_V8 (xs := [x, y]) (fun z hz => hb z (by simp at hz ⊢; omega)) rfl
    simp only [V8, List.foldl_cons, List.foldl_nil] at this
    show be2 ((256 * x + y : Nat) : Int) = [x, y]
    rw [show 256 * x + y = 256 * (256 * 0 + x) + y by omega]
    exact this
theorem be_sx_hd2 {b : List Nat} (hb : Byt b) (h : 2 ≤ b.length) : be2 (sx16 (hd2 b)) = b.take 2 := by
  match b, h with
  | x :: y :: t, _ =>
    have := be_sx2 (xs := [x, y]) (fun z hz => hb z (by simp at hz ⊢; omega)) rfl
    simp only [V8, List.foldl_cons, List.foldl_nil] at this
    show be2 (sx16 (256 * x + y : Nat)) = [x, y]
    rw [show 256 * x + y = 256 * (256 * 0 + x) + y by omega]
    exact this
theorem hd2_ltF {b : List Nat} (hb : Byt b) : hd2 b < 65536 := by
  match b with
  | [] => decide
  | [x] => show 0 < 65536; decide
  | x :: y :: t =>
    have h1 := hb x (by simp)
    have h2 := hb y (by simp)
    show 256 * x + y < 65536
    omega
theorem ls_of {α : Type} {f : List Nat → α} {u : List Nat → Nat} {e : α → List Nat} {P : α → Prop} {most : Nat} (hf : ∀ b, Byt b → u b ≤ b.length → P (f b) → e (f b) = b.take (u b)) {b : List Nat} (hb : Byt b) (hl : lsU u most b ≤ b.length) (hm : (lsV f u most b).length ≤ most) (hp : ∀ x ∈ lsV f u most b, P x) : lsE e (lsV f u most b) = b.take (lsU u most b) := by
  rw [lsU] at hl
  have h0 := mn_of hf (ctV most b) (b.drop 2) (hb.drop _) (by rw [List.length_drop]; omega) hp
  have h1 : ((lsV f u most b).length : Nat) = hd2 b := by
    rw [lsV_len] at hm ⊢
    unfold ctV at hm ⊢
    omega
  rw [lsE, h1, be_hd2 hb (by omega), lsU, List.take_add, ← h0]
  rfl
/-- The pieces: a number, a cond, a feature, a swap. -/
def nuV (b : List Nat) : Int := ((hd2 b : Nat) : Int)
def two_ (_ : List Nat) : Nat := 2
def six_ (_ : List Nat) : Nat := 6
def tgH (b : List Nat) : ByteArray := tgV b 0
def cnV (b : List Nat) : Cn := ⟨nuV b, sx16 (hd2 (b.drop 2)), sx16 (hd2 (b.drop 4))⟩
def cnE (c : Cn) : List Nat := be2 c.ax ++ (be2 c.ls ++ be2 c.ms)
def nlV (b : List Nat) : List Int := lsV nuV two_ 10 b
def nlU (b : List Nat) : Nat := lsU two_ 10 b
def nlE (l : List Int) : List Nat := lsE be2 l
def ftV (b : List Nat) : Ft := ⟨tgH b, nlV (b.drop 4)⟩
def ftU (b : List Nat) : Nat := 4 + nlU (b.drop 4)
def ftE (f : Ft) : List Nat := sb f.tg ++ nlE f.lk
def csV (b : List Nat) : List Cn := lsV cnV six_ 4 b
def csU (b : List Nat) : Nat := lsU six_ 4 b
def csE (l : List Cn) : List Nat := lsE cnE l
def swV (b : List Nat) : Sw := ⟨csV b, nuV (b.drop (csU b)), nlV (b.drop (csU b + 2))⟩
def swU (b : List Nat) : Nat := csU b + 2 + nlU (b.drop (csU b + 2))
def swE (s : Sw) : List Nat := csE s.cn ++ (be2 s.ft ++ nlE s.lk)
def flV (b : List Nat) : List Ft := lsV ftV ftU 10 b
def flU (b : List Nat) : Nat := lsU ftU 10 b
def slV (b : List Nat) : List Sw := lsV swV swU 6 b
def slU (b : List Nat) : Nat := lsU swU 6 b
def frE22 (l : List Ft) (s : List Sw) : List Nat := lsE ftE l ++ lsE swE s
def ofV (b : List Nat) : List Ft := flV b
def osV (b : List Nat) : List Sw := slV (b.drop (flU b))
def usV22 (b : List Nat) : Nat := flU b + slU (b.drop (flU b))
theorem nlU_le (b : List Nat) : nlU b ≤ 24 := lsU_le (m := 2) (most := 10) (fun _ => Nat.le_refl _) b
theorem csU_le (b : List Nat) : csU b ≤ 32 := lsU_le (m := 6) (most := 4) (fun _ => Nat.le_refl _) b
theorem ftU_le (b : List Nat) : ftU b ≤ 28 := by have := nlU_le (b.drop 4); unfold ftU; omega
theorem swU_le (b : List Nat) : swU b ≤ 58 := by have := nlU_le (b.drop (csU b + 2)); have := csU_le b; unfold swU; omega
theorem flU_le (b : List Nat) : flU b ≤ 310 := lsU_le (m := 28) (most := 10) ftU_le b
theorem slU_le (b : List Nat) : slU b ≤ 408 := lsU_le (m := 58) (most := 6) swU_le b
theorem usV22_le (b : List Nat) : usV22 b ≤ 718 := by have := flU_le b; have := slU_le (b.drop (flU b)); unfold usV22; omega
theorem tgV_drop (b : List Nat) (p : Nat) : tgV b (p : Int) = tgH (b.drop p) ∧ tgB b (p : Int) = tgB (b.drop p) 0 := by
  have e1 : inB b.length (p : Int) 4 = inB (b.drop p).length 0 4 := by
    unfold inB
    congr 1
    rw [List.length_drop]
    apply propext
    omega
  have e2 : cutV b (p : Int) 4 = cutV (b.drop p) 0 4 := by
    unfold cutV
    rw [e1, Int.toNat_natCast, show (0 : Int).toNat = 0 from rfl, List.drop_zero]
  have e3 : tgB b (p : Int) = tgB (b.drop p) 0 := by unfold tgB; rw [e1, e2]
  refine ⟨?_, e3⟩
  unfold tgH tgV
  rw [e3, e2]
theorem nu_back {x : Int} (h : 0 ≤ x ∧ x ≤ 65535) (Z : List Nat) : nuV (be2 x ++ Z) = x ∧ two_ (be2 x ++ Z) = (be2 x).length := by
  refine ⟨?_, rfl⟩
  rw [nuV, hd2_be2, V8_be2i' h.1 h.2]
  omega
theorem sx_hdF {z : Int} (h : -16384 ≤ z ∧ z ≤ 16384) (Z : List Nat) : sx16 (hd2 (be2 z ++ Z)) = z := by rw [hd2_be2, sx_be2 (by omega) (by omega)]
theorem tg_back {t : ByteArray} (h : gd (sb t) = true) (Z : List Nat) : tgH (sb t ++ Z) = t := by
  have h4 := gd_len h
  have v := cutV_at (b := sb t ++ Z) (A := []) (X := sb t) (Z := Z) (q := 0) (n := 4) rfl rfl h4
  rw [show ((4 : Nat) : Int) = 4 from rfl, show ((0 : Nat) : Int) = 0 from rfl] at v
  have hi : inB (sb t ++ Z).length 0 4 = true := by
    simp only [inB, decide_eq_true_iff, List.length_append]
    omega
  have ht : tgB (sb t ++ Z) 0 = true := by unfold tgB; rw [hi, v, h]; rfl
  rw [tgH, tgV, ht, if_pos rfl, v, str8_sb]
theorem cn_back {ax : Int} (hax : ax ≤ 65536) {c : Cn} (h : cnF ax c = true) (Z : List Nat) : cnV (cnE c ++ Z) = c ∧ six_ (cnE c ++ Z) = (cnE c).length := by
  obtain ⟨h1, ⟨h2, h3⟩, _⟩ := cnF_iff.1 h
  refine ⟨?_, rfl⟩
  have e : cnE c ++ Z = be2 c.ax ++ (be2 c.ls ++ (be2 c.ms ++ Z)) := by rw [cnE]; simp only [List.append_assoc]
  have e2 : (cnE c ++ Z).drop 2 = be2 c.ls ++ (be2 c.ms ++ Z) := by rw [e]; rfl
  have e4 : (cnE c ++ Z).drop 4 = be2 c.ms ++ Z := by rw [e]; rfl
  rw [cnV, e2, e4, e, (nu_back ⟨by omega, by omega⟩ _).1, sx_hdF h2, sx_hdF h3]
theorem nl_back {n : Int} (hn : n ≤ 65536) {l : List Int} (h : nlF n l = true) (Z : List Nat) : nlV (nlE l ++ Z) = l ∧ nlU (nlE l ++ Z) = (nlE l).length :=
  ls_back (nlF_iff.1 h).1 (by decide) (fun x hx Z => nu_back (by have := nlF_mem h x hx; omega) Z) Z
theorem ft_back {n : Int} (hn : n ≤ 65536) {f : Ft} (h : ftF n f = true) (Z : List Nat) : ftV (ftE f ++ Z) = f ∧ ftU (ftE f ++ Z) = (ftE f).length := by
  obtain ⟨h1, h2⟩ := ftF_iff.1 h
  have h4 := gd_len h1
  have e : ftE f ++ Z = sb f.tg ++ (nlE f.lk ++ Z) := by rw [ftE, List.append_assoc]
  have e4 : (ftE f ++ Z).drop 4 = nlE f.lk ++ Z := by rw [e, ← h4, List.drop_left]
  obtain ⟨q1, q2⟩ := nl_back hn h2 Z
  refine ⟨?_, ?_⟩
  · rw [ftV, e4, q1, e, tg_back h1]
  · rw [ftU, e4, q2, ftE, List.length_append, h4]
theorem sw_back {nf n ax : Int} (hnf : nf ≤ 65536) (hn : n ≤ 65536) (hax : ax ≤ 65536) {s : Sw} (h : swF nf n ax s = true) (Z : List Nat) : swV (swE s ++ Z) = s ∧ swU (swE s ++ Z) = (swE s).length := by
  obtain ⟨⟨h1, h2⟩, h3, h4⟩ := swF_iff.1 h
  have e : swE s ++ Z = csE s.cn ++ (be2 s.ft ++ (nlE s.lk ++ Z)) := by rw [swE]; simp only [List.append_assoc]
  obtain ⟨q1, q2⟩ : csV (swE s ++ Z) = s.cn ∧ csU (swE s ++ Z) = (csE s.cn).length := by
    rw [e]
    exact ls_back h1 (by decide) (fun c hc Z => cn_back hax (swF_mem h c hc) Z) _
  have e2 : (swE s ++ Z).drop (csE s.cn).length = be2 s.ft ++ (nlE s.lk ++ Z) := by rw [e, List.drop_left]
  have e3 : (swE s ++ Z).drop ((csE s.cn).length + 2) = nlE s.lk ++ Z := by rw [← List.drop_drop, e2]; rfl
  obtain ⟨q3, q4⟩ := nl_back hn h4 Z
  refine ⟨?_, ?_⟩
  · rw [swV, q1, q2, e2, e3, q3, (nu_back ⟨h3.1, by omega⟩ _).1]
  · rw [swU, q2, e3, q4, swE, List.length_append, List.length_append, be2L]
    omega
/-- What is written is read as it was, to the last byte. -/
theorem all_back {l : List Ft} {s : List Sw} {n ax : Int} (h : foFt l s n ax = true) (hn : n ≤ 65536) (hax : ax ≤ 65536) : ofV (frE22 l s) = l ∧ osV (frE22 l s) = s ∧ usV22 (frE22 l s) = (frE22 l s).length := by
  obtain ⟨⟨h1, h2⟩, _⟩ := foFt_iff.1 h
  obtain ⟨h3, h4⟩ := foFt_mem h
  obtain ⟨q1, q2⟩ : flV (frE22 l s) = l ∧ flU (frE22 l s) = (lsE ftE l).length := ls_back h1 (by decide) (fun f hf Z => ft_back hn (h3 f hf) Z) _
  have e2 : (frE22 l s).drop (lsE ftE l).length = lsE swE s := by rw [frE22, List.drop_left]
  obtain ⟨q3, q4⟩ := ls_back (f := swV) (u := swU) (e := swE) (Z := []) h2 (by decide) (fun x hx Z => sw_back (by omega) hn hax (h4 x hx) Z)
  rw [List.append_nil] at q3 q4
  refine ⟨q1, ?_, ?_⟩
  · rw [osV, q2, e2]; exact q3
  · rw [usV22, q2, e2, slU, q4, frE22, List.length_append]
theorem tg_of {b : List Nat} (hb : Byt b) (h : 4 ≤ b.length) (hg : gd (sb (tgH b)) = true) : sb (tgH b) = b.take 4 := by
  have ht : tgB b 0 = true := by
    cases ht : tgB b 0 with
    | true => rfl
    | false =>
      rw [tgH, tgV, ht, if_neg (by decide)] at hg
      exact absurd hg (by decide)
  have hi : inB b.length 0 4 = true := by simp only [inB, decide_eq_true_iff]; omega
  rw [tgH, tgV, ht, if_pos rfl, cutV_yes hi, show (0 : Int).toNat = 0 from rfl, List.drop_zero, show (4 : Int).toNat = 4 from rfl, sb_str8 (hb.take _)]
theorem nu_of : ∀ b, Byt b → two_ b ≤ b.length → True → be2 (nuV b) = b.take (two_ b) := fun b hb h _ => be_hd2 hb h
theorem cn_of : ∀ b, Byt b → six_ b ≤ b.length → True → cnE (cnV b) = b.take (six_ b) := by
  intro b hb h _
  have h6 : 6 ≤ b.length := h
  show be2 (nuV b) ++ (be2 (sx16 (hd2 (b.drop 2))) ++ be2 (sx16 (hd2 (b.drop 4)))) = b.take 6
  rw [nuV, be_hd2 hb (by omega), be_sx_hd2 (hb.drop _) (by rw [List.length_drop]; omega), be_sx_hd2 (hb.drop _) (by rw [List.length_drop]; omega), show b.drop 4 = (b.drop 2).drop 2 by rw [List.drop_drop], ← List.take_add, ← List.take_add]
theorem nl_of {b : List Nat} (hb : Byt b) (h : nlU b ≤ b.length) (hl : (nlV b).length ≤ 10) : nlE (nlV b) = b.take (nlU b) := ls_of nu_of hb h hl (fun _ _ => trivial)
theorem cs_of {b : List Nat} (hb : Byt b) (h : csU b ≤ b.length) (hl : (csV b).length ≤ 4) : csE (csV b) = b.take (csU b) := ls_of cn_of hb h hl (fun _ _ => trivial)
theorem ft_of {n : Int} : ∀ b, Byt b → ftU b ≤ b.length → ftF n (ftV b) = true → ftE (ftV b) = b.take (ftU b) := by
  intro b hb h hf
  obtain ⟨h1, h2⟩ := ftF_iff.1 hf
  unfold ftU at h
  rw [ftE, ftU, List.take_add]
  congr 1
  · exact tg_of hb (by omega) h1
  · exact nl_of (hb.drop _) (by rw [List.length_drop]; omega) (nlF_iff.1 h2).1
theorem sw_of {nf n ax : Int} : ∀ b, Byt b → swU b ≤ b.length → swF nf n ax (swV b) = true → swE (swV b) = b.take (swU b) := by
  intro b hb h hf
  obtain ⟨⟨h1, _⟩, _, h4⟩ := swF_iff.1 hf
  unfold swU at h
  have e1 : csE (csV b) = b.take (csU b) := cs_of hb (by omega) h1
  have e2 : be2 (nuV (b.drop (csU b))) = (b.drop (csU b)).take 2 := be_hd2 (hb.drop _) (by rw [List.length_drop]; omega)
  have e3 : nlE (nlV (b.drop (csU b + 2))) = (b.drop (csU b + 2)).take (nlU (b.drop (csU b + 2))) := nl_of (hb.drop _) (by rw [List.length_drop]; omega) (nlF_iff.1 h4).1
  rw [swE, swU, List.take_add, List.take_add, List.append_assoc, ← e1, ← e2, ← e3]
  rfl
theorem all_of {b : List Nat} (hb : Byt b) {n ax : Int} (h : foFt (ofV b) (osV b) n ax = true) (hu : usV22 b ≤ b.length) : frE22 (ofV b) (osV b) = b.take (usV22 b) := by
  obtain ⟨⟨h1, h2⟩, _⟩ := foFt_iff.1 h
  obtain ⟨h3, h4⟩ := foFt_mem h
  unfold usV22 at hu
  have e1 : lsE ftE (ofV b) = b.take (flU b) := ls_of ft_of hb (show flU b ≤ b.length by omega) h1 h3
  have e2 : lsE swE (osV b) = (b.drop (flU b)).take (slU (b.drop (flU b))) := ls_of sw_of (hb.drop _) (show slU (b.drop (flU b)) ≤ (b.drop (flU b)).length by rw [List.length_drop]; omega) h2 h4
  rw [frE22, usV22, List.take_add, e1, e2]

/-- Written. -/
def wr22 (l : List Ft) (s : List Sw) (n ax : Int) : Bool := foFt l s n ax && (decide (n ≤ 65536) && decide (ax ≤ 65536))
def wrFE (l : List Ft) (s : List Sw) (n ax : Int) : Int := if wr22 l s n ax then 0 else 1
def wrFB (l : List Ft) (s : List Sw) (n ax : Int) : List Nat := if wr22 l s n ax then frE22 l s else []
theorem wr22_iff {l : List Ft} {s : List Sw} {n ax : Int} : wr22 l s n ax = true ↔ foFt l s n ax = true ∧ n ≤ 65536 ∧ ax ≤ 65536 := by
  unfold wr22
  rw [Bool.and_eq_true, Bool.and_eq_true, decide_eq_true_iff, decide_eq_true_iff]
theorem wr22_no {l : List Ft} {s : List Sw} {n ax : Int} (h : ¬ (foFt l s n ax = true ∧ n ≤ 65536 ∧ ax ≤ 65536)) : wrFE l s n ax = 1 ∧ wrFB l s n ax = [] := by
  have : wr22 l s n ax = false := by
    cases hw : wr22 l s n ax with
    | false => rfl
    | true => exact absurd (wr22_iff.1 hw) h
  unfold wrFE wrFB
  rw [this]
  exact ⟨rfl, rfl⟩
theorem wr22_yes {l : List Ft} {s : List Sw} {n ax : Int} (h : foFt l s n ax = true ∧ n ≤ 65536 ∧ ax ≤ 65536) : wrFE l s n ax = 0 ∧ wrFB l s n ax = frE22 l s := by
  unfold wrFE wrFB
  rw [wr22_iff.2 h]
  exact ⟨rfl, rfl⟩
/-- Read. -/
def rdF22 (b : List Nat) (n ax : Int) : Bool := decide (usV22 b = b.length) && wr22 (ofV b) (osV b) n ax
def rdFL (b : List Nat) (n ax : Int) : List Ft := if rdF22 b n ax then ofV b else []
def rdFS (b : List Nat) (n ax : Int) : List Sw := if rdF22 b n ax then osV b else []
def rdFE (b : List Nat) (n ax : Int) : Int := if rdF22 b n ax then 0 else 2
theorem rdF22_iff {b : List Nat} {n ax : Int} : rdF22 b n ax = true ↔ usV22 b = b.length ∧ foFt (ofV b) (osV b) n ax = true ∧ n ≤ 65536 ∧ ax ≤ 65536 := by
  unfold rdF22
  rw [Bool.and_eq_true, decide_eq_true_iff, wr22_iff]
theorem rdF22_no {b : List Nat} {n ax : Int} (h : ¬ (usV22 b = b.length ∧ foFt (ofV b) (osV b) n ax = true ∧ n ≤ 65536 ∧ ax ≤ 65536)) : rdFE b n ax = 2 ∧ rdFL b n ax = [] ∧ rdFS b n ax = [] := by
  have : rdF22 b n ax = false := by
    cases hw : rdF22 b n ax with
    | false => rfl
    | true => exact absurd (rdF22_iff.1 hw) h
  unfold rdFE rdFL rdFS
  rw [this]
  exact ⟨rfl, rfl, rfl⟩
theorem rdF22_yes {b : List Nat} {n ax : Int} (h : usV22 b = b.length ∧ foFt (ofV b) (osV b) n ax = true ∧ n ≤ 65536 ∧ ax ≤ 65536) : rdFE b n ax = 0 ∧ rdFL b n ax = ofV b ∧ rdFS b n ax = osV b := by
  unfold rdFE rdFL rdFS
  rw [rdF22_iff.2 h]
  exact ⟨rfl, rfl, rfl⟩
/-- The reference's way: what is read is written, and held against the bytes. -/
theorem rd_wr22 {b : List Nat} (hb : Byt b) {n ax : Int} : (usV22 b = b.length ∧ foFt (ofV b) (osV b) n ax = true ∧ n ≤ 65536 ∧ ax ≤ 65536) ↔ wrFE (ofV b) (osV b) n ax = 0 ∧ wrFB (ofV b) (osV b) n ax = b := by
  constructor
  · rintro ⟨h1, h2⟩
    obtain ⟨e1, e2⟩ := wr22_yes h2
    refine ⟨e1, ?_⟩
    rw [e2, all_of hb h2.1 (by omega), h1, List.take_length]
  · rintro ⟨h1, h2⟩
    by_cases h : foFt (ofV b) (osV b) n ax = true ∧ n ≤ 65536 ∧ ax ≤ 65536
    · refine ⟨?_, h⟩
      obtain ⟨e1, e2⟩ := wr22_yes h
      rw [e2] at h2
      have h3 := (all_back h.1 h.2.1 h.2.2).2.2
      rw [h2] at h3
      exact h3
    · rw [(wr22_no h).1] at h1
      cases h1
/-- FeatsBack, both ways. -/
theorem rd_back22 {l : List Ft} {s : List Sw} {n ax : Int} (h : wrFE l s n ax = 0) : rdFE (wrFB l s n ax) n ax = 0 ∧ rdFL (wrFB l s n ax) n ax = l ∧ rdFS (wrFB l s n ax) n ax = s := by
  by_cases hw : foFt l s n ax = true ∧ n ≤ 65536 ∧ ax ≤ 65536
  · obtain ⟨_, e⟩ := wr22_yes hw
    obtain ⟨q1, q2, q3⟩ := all_back hw.1 hw.2.1 hw.2.2
    rw [e]
    obtain ⟨r1, r2, r3⟩ := rdF22_yes (b := frE22 l s) (n := n) (ax := ax) ⟨q3, by rw [q1, q2]; exact hw⟩
    exact ⟨r1, r2.trans q1, r3.trans q2⟩
  · rw [(wr22_no hw).1] at h
    cases h
theorem rd_cases22 {b : List Nat} (hb : Byt b) (n ax : Int) : (rdFE b n ax = 0 ∧ wrFE (rdFL b n ax) (rdFS b n ax) n ax = 0 ∧ wrFB (rdFL b n ax) (rdFS b n ax) n ax = b ∧ foFt (rdFL b n ax) (rdFS b n ax) n ax = true) ∨ (rdFE b n ax = 2 ∧ rdFL b n ax = [] ∧ rdFS b n ax = []) := by
  by_cases h : usV22 b = b.length ∧ foFt (ofV b) (osV b) n ax = true ∧ n ≤ 65536 ∧ ax ≤ 65536
  · obtain ⟨r1, r2, r3⟩ := rdF22_yes h
    obtain ⟨q1, q2⟩ := (rd_wr22 hb).1 h
    rw [r1, r2, r3]
    exact .inl ⟨rfl, q1, q2, h.2.1⟩
  · exact .inr (rdF22_no h)

end Go.Proofs.Ytaejlopkdkaphaa
