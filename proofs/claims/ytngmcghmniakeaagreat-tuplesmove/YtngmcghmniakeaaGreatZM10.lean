/-
  Infer: what is inferred of a contour's numbers (plain mathematics).
  Pages: the document's states (St) and what is done with them, and how a page of the code lies in a world (Pc).
  octets: closed, fail, put, fits, four: the walks.
  octets: fits, four, Put8, Put16, Put32, PutBytes, Here: the walks.
  octets.Good, PutTag: the walks.
  octets.within, number, U8, U16, I16, U32, I32: the walks.
-/
import Derived.Test.YtngmcghmniakeaaGreatZM9
import Derived.Test.YtngmcghmniakeaaGreatZM6
import Derived.Laws.IdiomStrings
import Derived.Lib.BitFns
set_option linter.unusedSimpArgs false
set_option linter.unusedVariables false
namespace Go.Proofs.YtngmcghmniakeaaGreat
def nbT (t : List Bool) (f : Nat → Nat) (m : Nat) : Option Nat := ((List.range m).map f).find? (fun j => t.getD j false)
theorem nbT_succ (t : List Bool) (f : Nat → Nat) (m : Nat) : nbT t f (m + 1) = (nbT t f m).or (if t.getD (f m) false = true then some (f m) else none) := by
 unfold nbT
 rw [List.range_succ, List.map_append, List.find?_append]
 by_cases h : t.getD (f m) false = true
 · simp only [List.map_cons, List.map_nil, List.find?_cons, h, if_true]
 · have h' : t.getD (f m) false = false := by simpa using h
   simp only [List.map_cons, List.map_nil, List.find?_cons, List.find?_nil, h']
   rfl
theorem nbT_none {t : List Bool} {f : Nat → Nat} {m : Nat} (h : ∀ j, j < m → t.getD (f j) false = false) : nbT t f m = none := by
 induction m with
 | zero => rfl
 | succ m ih => rw [nbT_succ, ih (fun j hj => h j (by omega)), h m (by omega)]; rfl
theorem nbT_some {t : List Bool} {f : Nat → Nat} {m k : Nat} (hk : k < m) (h : ∀ j, j < k → t.getD (f j) false = false) (ht : t.getD (f k) false = true) : nbT t f m = some (f k) := by
 induction m with
 | zero => omega
 | succ m ih =>
  rw [nbT_succ]
  by_cases hkm : k < m
  · rw [ih hkm]; rfl
  · obtain rfl : k = m := by omega
    rw [nbT_none h, if_pos ht]; rfl
theorem nbT_spec (t : List Bool) (f : Nat → Nat) (m : Nat) : (nbT t f m = none ∧ ∀ j, j < m → t.getD (f j) false = false) ∨ ∃ k, k < m ∧ nbT t f m = some (f k) ∧ t.getD (f k) false = true := by
 induction m with
 | zero => exact .inl ⟨rfl, fun j hj => by omega⟩
 | succ m ih =>
  rcases ih with ⟨h1, h2⟩ | ⟨k, hk, h1, h2⟩
  · by_cases hm : t.getD (f m) false = true
    · exact .inr ⟨m, by omega, by rw [nbT_succ, h1, if_pos hm]; rfl, hm⟩
    · refine .inl ⟨by rw [nbT_succ, h1, if_neg hm]; rfl, fun j hj => ?_⟩
      by_cases hjm : j < m
      · exact h2 j hjm
      · obtain rfl : j = m := by omega
        simpa using hm
  · exact .inr ⟨k, by omega, by rw [nbT_succ, h1]; rfl, h2⟩
def wyA (n i k : Nat) : Nat := if k < i then i - 1 - k else i + n - 1 - k
def wyB (n i k : Nat) : Nat := if i + 1 + k < n then i + 1 + k else i + 1 + k - n
theorem mod2 {x n : Nat} (h : x < 2 * n) : x % n = if x < n then x else x - n := by
 by_cases hx : x < n
 · rw [if_pos hx, Nat.mod_eq_of_lt hx]
 · rw [if_neg hx, Nat.mod_eq_sub_mod (by omega), Nat.mod_eq_of_lt (by omega)]
theorem wyA_lt {n i k : Nat} (hi : i < n) (hk : k < n) : wyA n i k < n := by unfold wyA; split <;> omega
theorem wyB_lt {n i k : Nat} (hi : i < n) (hk : k < n) : wyB n i k < n := by unfold wyB; split <;> omega
theorem wyA_ne {n i k : Nat} (hi : i < n) (hk : k < n - 1) : wyA n i k ≠ i := by unfold wyA; split <;> omega
theorem wyB_ne {n i k : Nat} (hi : i < n) (hk : k < n - 1) : wyB n i k ≠ i := by unfold wyB; split <;> omega
theorem wyA_end {n i : Nat} (hi : i < n) : wyA n i (n - 1) = i := by unfold wyA; split <;> omega
theorem wyB_end {n i : Nat} (hi : i < n) : wyB n i (n - 1) = i := by unfold wyB; split <;> omega
theorem wyA_zero {n i : Nat} (hi : i < n) : (i + (n - 1)) % n = wyA n i 0 := by rw [mod2 (by omega)]; unfold wyA; split <;> split <;> omega
theorem wyB_zero {n i : Nat} (hi : i < n) : (i + 1) % n = wyB n i 0 := by rw [mod2 (by omega)]; unfold wyB; rw [Nat.add_zero]
theorem wyA_succ {n i k : Nat} (hi : i < n) (hk : k + 1 < n) : (wyA n i k + (n - 1)) % n = wyA n i (k + 1) := by
 rw [mod2 (by have := wyA_lt hi (show k < n by omega); omega)]
 unfold wyA
 split <;> split <;> split <;> omega
theorem wyB_succ {n i k : Nat} (hi : i < n) (hk : k + 1 < n) : (wyB n i k + 1) % n = wyB n i (k + 1) := by
 rw [mod2 (by have := wyB_lt hi (show k < n by omega); omega)]
 unfold wyB
 split <;> split <;> split <;> omega
theorem wyA_onto {n i j : Nat} (hi : i < n) (hj : j < n) (hne : j ≠ i) : ∃ k, k < n - 1 ∧ wyA n i k = j := by
 by_cases h : j < i
 · exact ⟨i - 1 - j, by omega, by unfold wyA; rw [if_pos (by omega)]; omega⟩
 · exact ⟨i + n - 1 - j, by omega, by unfold wyA; rw [if_neg (by omega)]; omega⟩
theorem wyB_onto {n i j : Nat} (hi : i < n) (hj : j < n) (hne : j ≠ i) : ∃ k, k < n - 1 ∧ wyB n i k = j := by
 by_cases h : j < i
 · exact ⟨j + n - 1 - i, by omega, by unfold wyB; rw [if_neg (by omega)]; omega⟩
 · exact ⟨j - 1 - i, by omega, by unfold wyB; rw [if_pos (by omega)]; omega⟩
def nbA (t : List Bool) (i : Nat) : Option Nat := nbT t (wyA t.length i) (t.length - 1)
def nbB (t : List Bool) (i : Nat) : Option Nat := nbT t (wyB t.length i) (t.length - 1)
theorem nbA_spec {t : List Bool} {i : Nat} (hi : i < t.length) : (nbA t i = none ∧ ∀ j, j < t.length → j ≠ i → t.getD j false = false) ∨ ∃ a, a < t.length ∧ a ≠ i ∧ nbA t i = some a ∧ t.getD a false = true := by
 rcases nbT_spec t (wyA t.length i) (t.length - 1) with ⟨h1, h2⟩ | ⟨k, hk, h1, h2⟩
 · refine .inl ⟨h1, fun j hj hne => ?_⟩
   obtain ⟨k, hk, e⟩ := wyA_onto hi hj hne
   rw [← e]
   exact h2 k hk
 · exact .inr ⟨_, wyA_lt hi (by omega), wyA_ne hi hk, h1, h2⟩
theorem nbB_spec {t : List Bool} {i : Nat} (hi : i < t.length) : (nbB t i = none ∧ ∀ j, j < t.length → j ≠ i → t.getD j false = false) ∨ ∃ a, a < t.length ∧ a ≠ i ∧ nbB t i = some a ∧ t.getD a false = true := by
 rcases nbT_spec t (wyB t.length i) (t.length - 1) with ⟨h1, h2⟩ | ⟨k, hk, h1, h2⟩
 · refine .inl ⟨h1, fun j hj hne => ?_⟩
   obtain ⟨k, hk, e⟩ := wyB_onto hi hj hne
   rw [← e]
   exact h2 k hk
 · exact .inr ⟨_, wyB_lt hi (by omega), wyB_ne hi hk, h1, h2⟩
theorem nbAB {t : List Bool} {i : Nat} (hi : i < t.length) : (nbA t i = none ∧ nbB t i = none ∧ ∀ j, j < t.length → j ≠ i → t.getD j false = false) ∨ ∃ a b, nbA t i = some a ∧ nbB t i = some b ∧ a < t.length ∧ b < t.length ∧ a ≠ i ∧ b ≠ i ∧ t.getD a false = true ∧ t.getD b false = true := by
 rcases nbA_spec hi with ⟨h1, h2⟩ | ⟨a, h1, h2, h3, h4⟩
 · rcases nbB_spec hi with ⟨k1, k2⟩ | ⟨b, k1, k2, k3, k4⟩
   · exact .inl ⟨h1, k1, h2⟩
   · rw [h2 b k1 k2] at k4; cases k4
 · rcases nbB_spec hi with ⟨k1, k2⟩ | ⟨b, k1, k2, k3, k4⟩
   · rw [k2 a h1 h2] at h4; cases h4
   · exact .inr ⟨a, b, h3, k3, h1, k1, h2, k2, h4, k4⟩
def segQ (a x b y c : Int) : Rat := if c ≤ a then (x : Rat) else if b ≤ c then (y : Rat) else btw x y (c - a) (b - a)
def infQ (a x b y c : Int) : Rat := if a = b then (if x = y then (x : Rat) else 0) else if a < b then segQ a x b y c else segQ b y a x c
theorem infQ_comm (a x b y c : Int) : infQ a x b y c = infQ b y a x c := by
 unfold infQ
 by_cases h : a = b
 · rw [if_pos h, if_pos h.symm]
   by_cases hx : x = y
   · rw [if_pos hx, if_pos hx.symm, hx]
   · rw [if_neg hx, if_neg (fun e => hx e.symm)]
 · have h' : ¬ b = a := fun e => h e.symm
   rw [if_neg h, if_neg h']
   by_cases hl : a < b
   · have h2 : ¬ b < a := by omega
     rw [if_pos hl, if_neg h2]
   · have h2 : b < a := by omega
     rw [if_neg hl, if_pos h2]
def fiQ (ns : List Int) (ts : List Bool) (cs : List Int) (i : Nat) : Rat :=
 if ts.getD i false = true then ((cs.getD i 0 : Int) : Rat) else
  match nbA ts i, nbB ts i with
  | some a, some b => infQ (ns.getD a 0) (cs.getD a 0) (ns.getD b 0) (cs.getD b 0) (ns.getD i 0)
  | _, _ => 0
def fitB (ns : List Int) (ts : List Bool) (cs : List Int) : Bool := decide (ts.length = ns.length ∧ cs.length = ns.length ∧ ns.length ≤ 80) && (ns.all fdB && cs.all fdB)
def fillQ (ns : List Int) (ts : List Bool) (cs : List Int) : List Rat := if fitB ns ts cs = true then (List.range ns.length).map (fiQ ns ts cs) else []
theorem fillQ_no {ns : List Int} {ts : List Bool} {cs : List Int} (h : fitB ns ts cs = false) : fillQ ns ts cs = [] := by
 unfold fillQ
 rw [h]
 rfl
theorem fillQ_yes {ns : List Int} {ts : List Bool} {cs : List Int} (h : fitB ns ts cs = true) : fillQ ns ts cs = (List.range ns.length).map (fiQ ns ts cs) := if_pos h
theorem fillQ_len {ns : List Int} {ts : List Bool} {cs : List Int} (h : fitB ns ts cs = true) : (fillQ ns ts cs).length = ns.length := by rw [fillQ_yes h]; simp
theorem fitB_iff {ns : List Int} {ts : List Bool} {cs : List Int} : fitB ns ts cs = true ↔ (ts.length = ns.length ∧ cs.length = ns.length ∧ ns.length ≤ 80) ∧ (∀ z ∈ ns, -32768 ≤ z ∧ z ≤ 32767) ∧ ∀ z ∈ cs, -32768 ≤ z ∧ z ≤ 32767 := by
 unfold fitB
 simp only [Bool.and_eq_true, decide_eq_true_iff, List.all_eq_true, fdB_iff]
theorem fd_getD {l : List Int} (h : ∀ z ∈ l, -32768 ≤ z ∧ z ≤ 32767) (i : Nat) : -32768 ≤ l.getD i 0 ∧ l.getD i 0 ≤ 32767 := by
 by_cases hi : i < l.length
 · rw [List.getD_eq_getElem?_getD, List.getElem?_eq_getElem hi, Option.getD_some]
   exact h _ (List.getElem_mem hi)
 · rw [List.getD_eq_getElem?_getD, List.getElem?_eq_none (by omega), Option.getD_none]
   omega
theorem fiQ_own {ns : List Int} {ts : List Bool} {cs : List Int} {i : Nat} (h : ts.getD i false = true) : fiQ ns ts cs i = ((cs.getD i 0 : Int) : Rat) := if_pos h
theorem fiQ_two {ns : List Int} {ts : List Bool} {cs : List Int} {i a b : Nat} (h : ts.getD i false = false) (ha : nbA ts i = some a) (hb : nbB ts i = some b) : fiQ ns ts cs i = infQ (ns.getD a 0) (cs.getD a 0) (ns.getD b 0) (cs.getD b 0) (ns.getD i 0) := by
 unfold fiQ
 rw [h, ha, hb]
 rfl
theorem fiQ_nil {ns : List Int} {ts : List Bool} {cs : List Int} {i : Nat} (h : ts.getD i false = false) (ha : nbA ts i = none) : fiQ ns ts cs i = 0 := by
 unfold fiQ
 rw [h, ha]
 rfl
theorem fiQ_none {ns : List Int} {ts : List Bool} {cs : List Int} {i : Nat} (hi : i < ts.length) (h : ∀ j, j < ts.length → ts.getD j false = false) : fiQ ns ts cs i = 0 := by
 rcases nbAB hi with ⟨h1, h2, _⟩ | ⟨a, b, h1, h2, h3, h4, h5, h6, h7, h8⟩
 · exact fiQ_nil (h i hi) h1
 · rw [h a h3] at h7; cases h7
theorem fiQ_one {ns : List Int} {ts : List Bool} {cs : List Int} {i p : Nat} (hi : i < ts.length) (hp : p < ts.length) (ht : ts.getD p false = true) (h : ∀ j, j < ts.length → ts.getD j false = true → j = p) : fiQ ns ts cs i = ((cs.getD p 0 : Int) : Rat) := by
 by_cases hti : ts.getD i false = true
 · rw [fiQ_own hti, h i hi hti]
 · have hti : ts.getD i false = false := by simpa using hti
   rcases nbAB hi with ⟨h1, h2, h3⟩ | ⟨a, b, h1, h2, h3, h4, h5, h6, h7, h8⟩
   · by_cases hpi : p = i
     · rw [hpi, hti] at ht; cases ht
     · rw [h3 p hp hpi] at ht; cases ht
   · obtain rfl := h a h3 h7
     obtain rfl := h b h4 h8
     rw [fiQ_two hti h1 h2]
     unfold infQ
     rw [if_pos rfl, if_pos rfl]
open Go.RowKit Go.Maps
def be2 (n : Int) : List Nat := [(n / 256 % 256).toNat, (n % 256).toNat]
def be4 (n : Int) : List Nat := [(n / 16777216 % 256).toNat, (n / 65536 % 256).toNat, (n / 256 % 256).toNat, (n % 256).toNat]
def inB (l : Nat) (p n : Int) : Bool := decide (0 ≤ n ∧ 0 ≤ p ∧ p + n ≤ l)
def V8 (xs : List Nat) : Nat := xs.foldl (fun s x => 256 * s + x) 0
def nmV (xs : List Nat) (p : Int) (n : Nat) : Nat := if inB xs.length p n then V8 ((xs.drop p.toNat).take n) else 0
end Go.Proofs.YtngmcghmniakeaaGreat
