/-
  Ranges of characters: what they are, and their bytes (plain mathematics).
  Texts as rows of runes; characters and glyphs both ways (plain mathematics).
-/
import Derived.Test.YtgambbmonbhpnaaZ3
import Derived.Lib.DecodeN
import Derived.Laws.Cover4
namespace Go.Proofs.Ytgambbmonbhpnaa
set_option linter.unusedSimpArgs false
set_option linter.unusedVariables false

structure Rn where
  fr : Int
  to : Int
  gl : Int
def Rn.none : Rn := ⟨0, 0, 0⟩
theorem Rn.ext' {x y : Rn} (h1 : x.fr = y.fr) (h2 : x.to = y.to) (h3 : x.gl = y.gl) : x = y := by
  obtain ⟨a, b, c⟩ := x
  obtain ⟨d, e, f⟩ := y
  dsimp only at h1 h2 h3
  subst h1 h2 h3
  rfl
def rnB (x : Rn) (n : Int) : Bool := decide (0 ≤ x.fr ∧ x.fr ≤ x.to ∧ x.to ≤ 1114111 ∧ 0 ≤ x.gl ∧ x.gl + (x.to - x.fr) < n)
theorem rnB_iff {x : Rn} {n : Int} : rnB x n = true ↔ 0 ≤ x.fr ∧ x.fr ≤ x.to ∧ x.to ≤ 1114111 ∧ 0 ≤ x.gl ∧ x.gl + (x.to - x.fr) < n := by unfold rnB; exact decide_eq_true_iff
def foCx (l : List Rn) (n : Int) (k : Nat) : Bool := rnB (l.getD k Rn.none) n && (decide (k = 0) || decide ((l.getD (k - 1) Rn.none).to < (l.getD k Rn.none).fr))
def foC (l : List Rn) (n : Int) : Bool := decide (l.length ≤ 40) && (List.range l.length).all (foCx l n)
theorem foC_iff {l : List Rn} {n : Int} : foC l n = true ↔ l.length ≤ 40 ∧ ∀ k, k < l.length → foCx l n k = true := by
  unfold foC
  rw [Bool.and_eq_true, decide_eq_true_iff, List.all_eq_true]
  simp only [List.mem_range]
theorem foCx_iff {l : List Rn} {n : Int} {k : Nat} : foCx l n k = true ↔ rnB (l.getD k Rn.none) n = true ∧ (k = 0 ∨ (l.getD (k - 1) Rn.none).to < (l.getD k Rn.none).fr) := by
  unfold foCx
  rw [Bool.and_eq_true, Bool.or_eq_true, decide_eq_true_iff, decide_eq_true_iff]
theorem foC_no1 {l : List Rn} {n : Int} (h : 40 < l.length) : foC l n = false := by unfold foC; rw [decide_eq_false (by omega)]; rfl
theorem foC_no2 {l : List Rn} {n : Int} {k : Nat} (hk : k < l.length) (h : foCx l n k = false) : foC l n = false := by
  cases hf : foC l n with
  | false => rfl
  | true =>
    have := (foC_iff.1 hf).2 k hk
    rw [h] at this
    cases this
theorem foC_el {l : List Rn} {n : Int} (h : foC l n = true) : ∀ k, k < l.length → rnB (l.getD k Rn.none) n = true := fun k hk => (foCx_iff.1 ((foC_iff.1 h).2 k hk)).1
/-- Of formed ranges each lies behind all that are ahead of it. -/
theorem foC_lt {l : List Rn} {n : Int} (h : foC l n = true) : ∀ j i, i < j → j < l.length → (l.getD i Rn.none).to < (l.getD j Rn.none).fr := by
  intro j
  induction j with
  | zero => intro i hi; omega
  | succ j ih =>
    intro i hi hj
    have h1 := (foCx_iff.1 ((foC_iff.1 h).2 (j + 1) hj)).2
    have h2 : (l.getD j Rn.none).to < (l.getD (j + 1) Rn.none).fr := by
      rcases h1 with h1 | h1
      · omega
      · exact h1
    rcases Nat.lt_or_ge i j with h3 | h3
    · have h4 := ih i h3 (by omega)
      have h5 := (rnB_iff.1 (foC_el h j (by omega))).2.1
      omega
    · rw [show i = j by omega]; exact h2

/-- The glyph of a character. -/
def inR (x : Rn) (c : Int) : Bool := decide (x.fr ≤ c ∧ c ≤ x.to)
def glR (c : Int) : List Rn → Int
  | [] => 0
  | x :: l => if inR x c then x.gl + (c - x.fr) else glR c l
theorem glR_no {c : Int} : ∀ {l : List Rn}, (∀ j, j < l.length → inR (l.getD j Rn.none) c = false) → glR c l = 0 := by
  intro l
  induction l with
  | nil => intro _; rfl
  | cons x l ih =>
    intro h
    rw [glR, show inR x c = false from h 0 (by simp), if_neg (by decide)]
    exact ih (fun j hj => h (j + 1) (by simpa using hj))
theorem glR_at {c : Int} : ∀ {l : List Rn} {n : Nat}, n < l.length → (∀ j, j < n → inR (l.getD j Rn.none) c = false) → inR (l.getD n Rn.none) c = true → glR c l = (l.getD n Rn.none).gl + (c - (l.getD n Rn.none).fr) := by
  intro l
  induction l with
  | nil => intro n h; simp at h
  | cons x l ih =>
    intro n hn h he
    cases n with
    | zero => rw [glR, show inR x c = true from he, if_pos rfl]; rfl
    | succ n =>
      rw [glR, show inR x c = false from h 0 (by omega), if_neg (by decide)]
      exact ih (n := n) (by simpa using hn) (fun j hj => h (j + 1) (by omega)) he
/-- The characters of a glyph. -/
def hasG (x : Rn) (g : Int) : Bool := decide (x.gl ≤ g ∧ g ≤ x.gl + (x.to - x.fr))
def chK (g : Int) : List Rn → List Int
  | [] => []
  | x :: l => if hasG x g then (x.fr + (g - x.gl)) :: chK g l else chK g l
theorem chK_append (g : Int) (l m : List Rn) : chK g (l ++ m) = chK g l ++ chK g m := by
  induction l with
  | nil => rfl
  | cons x l ih =>
    rw [List.cons_append, chK, chK, ih]
    split <;> rfl
theorem chK_one (g : Int) (x : Rn) : chK g [x] = if hasG x g then [x.fr + (g - x.gl)] else [] := by rw [chK, chK]
theorem rn_snoc {l : List Rn} {k : Nat} (hk : k < l.length) : l.take (k + 1) = l.take k ++ [l.getD k Rn.none] := by
  rw [List.take_add_one, List.getElem?_eq_getElem hk]
  simp [List.getD, hk]
theorem chK_step {g : Int} {l : List Rn} {k : Nat} (hk : k < l.length) : chK g (l.take (k + 1)) = chK g (l.take k) ++ (if hasG (l.getD k Rn.none) g then [(l.getD k Rn.none).fr + (g - (l.getD k Rn.none).gl)] else []) := by
  rw [rn_snoc hk, chK_append, chK_one]
theorem chK_len (g : Int) (l : List Rn) : (chK g l).length ≤ l.length := by
  induction l with
  | nil => exact Nat.le_refl _
  | cons x l ih =>
    rw [chK]
    split
    · rw [List.length_cons, List.length_cons]; omega
    · rw [List.length_cons]; omega
def chC (l : List Rn) (g : Int) : List Int := if foC l 65536 then chK g l else []
theorem chK_mem {g c : Int} : ∀ {l : List Rn}, c ∈ chK g l ↔ ∃ k, k < l.length ∧ hasG (l.getD k Rn.none) g = true ∧ c = (l.getD k Rn.none).fr + (g - (l.getD k Rn.none).gl) := by
  intro l
  induction l with
  | nil => exact ⟨fun h => (by cases h), fun ⟨k, hk, _⟩ => (by simp at hk)⟩
  | cons x l ih =>
    constructor
    · intro h
      rw [chK] at h
      by_cases hx : hasG x g = true
      · rw [hx, if_pos rfl] at h
        rcases List.mem_cons.1 h with h | h
        · exact ⟨0, by simp, hx, h⟩
        · obtain ⟨k, hk, h1, h2⟩ := ih.1 h
          exact ⟨k + 1, by simpa using hk, h1, h2⟩
      · rw [if_neg hx] at h
        obtain ⟨k, hk, h1, h2⟩ := ih.1 h
        exact ⟨k + 1, by simpa using hk, h1, h2⟩
    · rintro ⟨k, hk, h1, h2⟩
      rw [chK]
      cases k with
      | zero =>
        rw [if_pos (show hasG x g = true from h1)]
        exact List.mem_cons.2 (.inl h2)
      | succ k =>
        have := ih.2 ⟨k, by simpa using hk, h1, h2⟩
        split
        · exact List.mem_cons.2 (.inr this)
        · exact this

/-- Bytes. -/
def rnE (x : Rn) : List Nat := be4 x.fr ++ (be4 x.to ++ be2 x.gl)
def rnsE : List Rn → List Nat
  | [] => []
  | x :: l => rnE x ++ rnsE l
theorem rnE_len (x : Rn) : (rnE x).length = 10 := rfl
theorem rnsE_append (l m : List Rn) : rnsE (l ++ m) = rnsE l ++ rnsE m := by
  induction l with
  | nil => rfl
  | cons x l ih => rw [List.cons_append, rnsE, ih, rnsE, List.append_assoc]
theorem rnsE_one (x : Rn) : rnsE [x] = rnE x := by rw [rnsE, rnsE, List.append_nil]
theorem rnsE_len (l : List Rn) : (rnsE l).length = 10 * l.length := by
  induction l with
  | nil => rfl
  | cons x l ih => rw [rnsE, List.length_append, ih, rnE_len, List.length_cons]; omega
def csB (l : List Rn) : List Nat := be2 ((l.length : Nat) : Int) ++ rnsE l
theorem csB_len (l : List Rn) : (csB l).length = 2 + 10 * l.length := by rw [csB, List.length_append, rnsE_len]; rfl
def okC (l : List Rn) (n : Int) : Bool := decide (n ≤ 65536) && foC l n
def wrCE (l : List Rn) (n : Int) : Int := if okC l n then 0 else 1
def wrCB (l : List Rn) (n : Int) : List Nat := if okC l n then csB l else []
theorem okC_iff {l : List Rn} {n : Int} : okC l n = true ↔ n ≤ 65536 ∧ foC l n = true := by unfold okC; rw [Bool.and_eq_true, decide_eq_true_iff]
theorem wrC_no {l : List Rn} {n : Int} (h : okC l n = false) : wrCB l n = [] ∧ wrCE l n = 1 := by unfold wrCB wrCE; rw [h]; exact ⟨rfl, rfl⟩
theorem wrC_yes {l : List Rn} {n : Int} (h : okC l n = true) : wrCB l n = csB l ∧ wrCE l n = 0 := by unfold wrCB wrCE; rw [h]; exact ⟨rfl, rfl⟩
def rnAt (b : List Nat) (p : Nat) : Rn := ⟨(nmV b (p : Int) 4 : Int), (nmV b ((p + 4 : Nat) : Int) 4 : Int), (nmV b ((p + 8 : Nat) : Int) 2 : Int)⟩
def rnsAt (b : List Nat) (p n : Nat) : List Rn := (List.range n).map (fun i => rnAt b (p + 10 * i))
theorem rnsAt_len (b : List Nat) (p n : Nat) : (rnsAt b p n).length = n := by simp [rnsAt]
theorem rnsAt_succ (b : List Nat) (p n : Nat) : rnsAt b p (n + 1) = rnsAt b p n ++ [rnAt b (p + 10 * n)] := by simp [rnsAt, List.range_succ]
def rdCn (b : List Nat) : Nat := nmV b 0 2
def rdCc (b : List Nat) : List Rn := rnsAt b 2 (rdCn b)
def rdC1 (b : List Nat) (n : Int) : Bool := inB b.length 0 2 && (decide (rdCn b ≤ 40) && (decide (b.length = 2 + 10 * rdCn b) && decide (n ≤ 65536)))
def rdCOk (b : List Nat) (n : Int) : Bool := rdC1 b n && foC (rdCc b) n
def rdCL (b : List Nat) (n : Int) : List Rn := if rdCOk b n then rdCc b else []
def rdCE (b : List Nat) (n : Int) : Int := if rdCOk b n then 0 else 2
theorem rdC1_iff {b : List Nat} {n : Int} : rdC1 b n = true ↔ inB b.length 0 2 = true ∧ rdCn b ≤ 40 ∧ b.length = 2 + 10 * rdCn b ∧ n ≤ 65536 := by
  unfold rdC1
  rw [Bool.and_eq_true, Bool.and_eq_true, Bool.and_eq_true, decide_eq_true_iff, decide_eq_true_iff, decide_eq_true_iff]
theorem rdC_no {b : List Nat} {n : Int} (h : rdCOk b n = false) : rdCL b n = [] ∧ rdCE b n = 2 := by unfold rdCL rdCE; rw [h]; exact ⟨rfl, rfl⟩
theorem rdC_yes {b : List Nat} {n : Int} (h : rdCOk b n = true) : rdCL b n = rdCc b ∧ rdCE b n = 0 := by unfold rdCL rdCE; rw [h]; exact ⟨rfl, rfl⟩
theorem rdC_no1 {b : List Nat} {n : Int} (h : rdC1 b n = false) : rdCL b n = [] ∧ rdCE b n = 2 := rdC_no (by unfold rdCOk; rw [h]; rfl)
theorem rdC_no2 {b : List Nat} {n : Int} (h : foC (rdCc b) n = false) : rdCL b n = [] ∧ rdCE b n = 2 := rdC_no (by unfold rdCOk; rw [h, Bool.and_false])

theorem v8_4 {z : Int} (h1 : 0 ≤ z) (h2 : z < 4294967296) : ((V8 (be4 z) : Nat) : Int) = z := by
  obtain ⟨k, rfl⟩ : ∃ k : Nat, z = (k : Int) := ⟨z.toNat, by omega⟩
  rw [V8_be4 (by omega)]
theorem v8_2 {z : Int} (h1 : 0 ≤ z) (h2 : z < 65536) : ((V8 (be2 z) : Nat) : Int) = z := by
  obtain ⟨k, rfl⟩ : ∃ k : Nat, z = (k : Int) := ⟨z.toNat, by omega⟩
  rw [V8_be2 (by omega)]
theorem rnAt_mid {b A Z : List Nat} {p : Nat} {x : Rn} (hb : b = A ++ (rnE x ++ Z)) (hp : A.length = p) {n : Int} (hn : n ≤ 65536) (h : rnB x n = true) : rnAt b p = x := by
  obtain ⟨h1, h2, h3, h4, h5⟩ := rnB_iff.1 h
  have b1 : b = A ++ (be4 x.fr ++ (be4 x.to ++ (be2 x.gl ++ Z))) := by rw [hb, rnE]; simp only [List.append_assoc]
  have b2 : b = (A ++ be4 x.fr) ++ (be4 x.to ++ (be2 x.gl ++ Z)) := by rw [b1]; simp only [List.append_assoc]
  have b3 : b = (A ++ be4 x.fr ++ be4 x.to) ++ (be2 x.gl ++ Z) := by rw [b1]; simp only [List.append_assoc]
  have v1 := nmV_at (q := p) (n := 4) b1 hp rfl
  have v2 := nmV_at (q := p + 4) (n := 4) b2 (by rw [List.length_append, hp]; rfl) rfl
  have v3 := nmV_at (q := p + 8) (n := 2) b3 (by rw [List.length_append, List.length_append, hp]; rfl) rfl
  refine Rn.ext' ?_ ?_ ?_
  · show ((nmV b (p : Int) 4 : Nat) : Int) = _
    rw [v1, v8_4 h1 (by omega)]
  · show ((nmV b ((p + 4 : Nat) : Int) 4 : Nat) : Int) = _
    rw [v2, v8_4 (by omega) (by omega)]
  · show ((nmV b ((p + 8 : Nat) : Int) 2 : Nat) : Int) = _
    rw [v3, v8_2 h4 (by omega)]
theorem rnsAt_mid {b : List Nat} {n : Int} (hn : n ≤ 65536) : ∀ {l : List Rn} {A Z : List Nat} {p : Nat}, b = A ++ (rnsE l ++ Z) → A.length = p → (∀ k, k < l.length → rnB (l.getD k Rn.none) n = true) → rnsAt b p l.length = l := by
  intro l
  induction l with
  | nil => intro A Z p _ _ _; rfl
  | cons x l ih =>
    intro A Z p hb hp h
    have q1 : rnB x n = true := h 0 (by simp)
    have e1 : rnAt b p = x := rnAt_mid (A := A) (Z := rnsE l ++ Z) (by rw [hb, rnsE, List.append_assoc]) hp hn q1
    have e2 := ih (A := A ++ rnE x) (Z := Z) (p := p + 10) (by rw [hb, rnsE]; simp only [List.append_assoc]) (by rw [List.length_append, rnE_len, hp]) (fun k hk => h (k + 1) (by simpa using hk))
    rw [List.length_cons, rnsAt, List.range_succ_eq_map, List.map_cons, List.map_map]
    refine congr (congrArg List.cons ?_) ?_
    · exact e1
    · rw [rnsAt] at e2
      refine Eq.trans (List.map_congr_left (fun i _ => ?_)) e2
      show rnAt b (p + 10 * (i + 1)) = rnAt b (p + 10 + 10 * i)
      rw [show p + 10 * (i + 1) = p + 10 + 10 * i by omega]
/-- What is written is read. -/
theorem rdC_back {l : List Rn} {n : Int} (h : okC l n = true) : rdCOk (csB l) n = true ∧ rdCc (csB l) = l := by
  obtain ⟨hn, hf⟩ := okC_iff.1 h
  have hl := (foC_iff.1 hf).1
  have hc : rdCn (csB l) = l.length := by
    have v := nmV_at (b := csB l) (A := []) (X := be2 ((l.length : Nat) : Int)) (Z := rnsE l) (q := 0) (n := 2) rfl rfl rfl
    rw [rdCn]
    rw [show ((0 : Nat) : Int) = 0 from rfl] at v
    rw [v, V8_be2 (by omega)]
  have hr : rdCc (csB l) = l := by
    rw [rdCc, hc]
    exact rnsAt_mid hn (A := be2 ((l.length : Nat) : Int)) (Z := []) (by rw [List.append_nil, csB]) rfl (foC_el hf)
  refine ⟨?_, hr⟩
  have hL := csB_len l
  unfold rdCOk
  rw [hr, hf, Bool.and_true, rdC1_iff, hc]
  refine ⟨?_, hl, hL, hn⟩
  simp only [inB, decide_eq_true_iff]
  omega
theorem bytC_cut {b : List Nat} (hb : Byt b) (p n : Nat) : Byt ((b.drop p).take n) := fun x hx => hb x (List.mem_of_mem_drop (List.mem_of_mem_take hx))
theorem be4_of {xs : List Nat} (h : Byt xs) (hl : xs.length = 4) : be4 ((V8 xs : Nat) : Int) = xs := by
  match xs, hl with
  | [a, b, c, d], _ =>
    have ha := h a (by simp)
    have hb := h b (by simp)
    have hc := h c (by simp)
    have hd := h d (by simp)
    have e : V8 [a, b, c, d] = 16777216 * a + 65536 * b + 256 * c + d := by simp only [V8, List.foldl_cons, List.foldl_nil]; omega
    rw [e]
    simp only [be4, List.cons.injEq, and_true]
    refine ⟨by omega, by omega, by omega, by omega⟩
theorem n4C_at {b : List Nat} (hb : Byt b) {p : Nat} (h : p + 4 ≤ b.length) : be4 ((nmV b (p : Int) 4 : Nat) : Int) = (b.drop p).take 4 := by
  have e : inB b.length (p : Int) 4 = true := by simp only [inB, decide_eq_true_iff]; omega
  rw [nmV, if_pos (by exact e), Int.toNat_natCast]
  exact be4_of (bytC_cut hb _ _) (by simp; omega)
theorem n2C_at {b : List Nat} (hb : Byt b) {p : Nat} (h : p + 2 ≤ b.length) : be2 ((nmV b (p : Int) 2 : Nat) : Int) = (b.drop p).take 2 := by
  have e : inB b.length (p : Int) 2 = true := by simp only [inB, decide_eq_true_iff]; omega
  rw [nmV, if_pos (by exact e), Int.toNat_natCast]
  exact be_V8 (bytC_cut hb _ _) (by simp; omega)
theorem rnE_read {b : List Nat} (hb : Byt b) {p : Nat} (h : p + 10 ≤ b.length) : rnE (rnAt b p) = (b.drop p).take 10 := by
  rw [rnE, rnAt]
  dsimp only
  rw [n4C_at hb (by omega), n4C_at hb (by omega), n2C_at hb (by omega), show b.drop (p + 8) = (b.drop (p + 4)).drop 4 by rw [List.drop_drop], ← List.take_add, show b.drop (p + 4) = (b.drop p).drop 4 by rw [List.drop_drop], ← List.take_add]
theorem rnsE_read {b : List Nat} (hb : Byt b) {p : Nat} : ∀ n, p + 10 * n ≤ b.length → rnsE (rnsAt b p n) = (b.drop p).take (10 * n) := by
  intro n
  induction n with
  | zero => intro _; rfl
  | succ n ih =>
    intro hl
    rw [rnsAt_succ, rnsE_append, ih (by omega), rnsE_one, rnE_read hb (by omega), show 10 * (n + 1) = 10 * n + 10 by omega, List.take_add, List.drop_drop]
/-- What is read is written to its very bytes. -/
theorem rdC_of {b : List Nat} {n : Int} (hb : Byt b) (h : rdCOk b n = true) : okC (rdCc b) n = true ∧ csB (rdCc b) = b := by
  unfold rdCOk at h
  rw [Bool.and_eq_true] at h
  obtain ⟨h1, h2⟩ := h
  obtain ⟨q1, q2, q3, q4⟩ := rdC1_iff.1 h1
  refine ⟨okC_iff.2 ⟨q4, h2⟩, ?_⟩
  have e2 : be2 ((rdCn b : Nat) : Int) = b.take 2 := by
    have := n2C_at hb (p := 0) (by omega)
    rw [show ((0 : Nat) : Int) = 0 from rfl, List.drop_zero] at this
    exact this
  rw [csB, rdCc, rnsAt_len, e2, rnsE_read hb _ (by omega), ← List.take_add, List.take_of_length_le (by omega)]

end Go.Proofs.Ytgambbmonbhpnaa

namespace Go.Proofs.Ytgambbmonbhpnaa
set_option linter.unusedSimpArgs false
set_option linter.unusedVariables false

/-- Of formed ranges, a character that lies in one has its glyph. -/
theorem glR_in {l : List Rn} {n : Int} (h : foC l n = true) {k : Nat} (hk : k < l.length) {c : Int} (hc : inR (l.getD k Rn.none) c = true) : glR c l = (l.getD k Rn.none).gl + (c - (l.getD k Rn.none).fr) := by
  refine glR_at hk (fun j hj => ?_) hc
  have h1 := foC_lt h k j hj hk
  have h2 := of_decide_eq_true hc
  unfold inR
  exact decide_eq_false (by omega)
theorem ch_in {x : Rn} {g : Int} (h : hasG x g = true) : inR x (x.fr + (g - x.gl)) = true := by
  have h1 := of_decide_eq_true h
  unfold inR
  exact decide_eq_true (by omega)
/-- The characters of a glyph have it. -/
theorem ch_gl {l : List Rn} {n g c : Int} (h : foC l n = true) (hc : c ∈ chK g l) : glR c l = g := by
  obtain ⟨k, hk, h1, rfl⟩ := chK_mem.1 hc
  rw [glR_in h hk (ch_in h1)]
  omega
/-- They rise. -/
theorem chK_rise {g : Int} : ∀ {l : List Rn}, l.Pairwise (fun x y => x.to < y.fr) → (chK g l).Pairwise (· < ·) := by
  intro l
  induction l with
  | nil => intro _; exact List.Pairwise.nil
  | cons x l ih =>
    intro h
    obtain ⟨h1, h2⟩ := List.pairwise_cons.1 h
    rw [chK]
    by_cases hx : hasG x g = true
    · rw [if_pos hx]
      refine List.pairwise_cons.2 ⟨fun c hc => ?_, ih h2⟩
      obtain ⟨k, hk, h3, rfl⟩ := chK_mem.1 hc
      have h4 := h1 (l.getD k Rn.none) (by rw [List.getD_eq_getElem?_getD, List.getElem?_eq_getElem hk]; exact List.getElem_mem hk)
      have h5 := of_decide_eq_true hx
      have h6 := of_decide_eq_true h3
      omega
    · rw [if_neg hx]
      exact ih h2
theorem foC_pair {l : List Rn} {n : Int} (h : foC l n = true) : l.Pairwise (fun x y => x.to < y.fr) := by
  rw [List.pairwise_iff_getElem]
  intro i j hi hj hij
  have := foC_lt h j i hij hj
  rw [List.getD_eq_getElem?_getD, List.getElem?_eq_getElem hi, List.getD_eq_getElem?_getD, List.getElem?_eq_getElem hj] at this
  exact this
theorem ch_rise {l : List Rn} {n g : Int} (h : foC l n = true) {i : Nat} (hi : i + 1 < (chK g l).length) : (chK g l).getD i 0 < (chK g l).getD (i + 1) 0 := by
  have := List.pairwise_iff_getElem.1 (chK_rise (g := g) (foC_pair h)) i (i + 1) (by omega) hi (by omega)
  rw [List.getD_eq_getElem?_getD, List.getElem?_eq_getElem (by omega), List.getD_eq_getElem?_getD, List.getElem?_eq_getElem hi]
  exact this
/-- A character is among its glyph's just if a range has it. -/
theorem ch_both {l : List Rn} {n c : Int} (h : foC l n = true) : c ∈ chK (glR c l) l ↔ ∃ k, k < l.length ∧ inR (l.getD k Rn.none) c = true := by
  constructor
  · intro hc
    obtain ⟨k, hk, h1, h2⟩ := chK_mem.1 hc
    have h3 := ch_in h1
    rw [← h2] at h3
    exact ⟨k, hk, h3⟩
  · rintro ⟨k, hk, hc⟩
    have e := glR_in h hk hc
    have h1 := of_decide_eq_true hc
    refine chK_mem.2 ⟨k, hk, ?_, by omega⟩
    unfold hasG
    exact decide_eq_true (by omega)

/-- The first rune of bytes, and how many they are. -/
def dcN (xs : List Nat) : Nat × Nat := Lib.decodeN xs.length (xs.getD 0 0) (xs.getD 1 0) (xs.getD 2 0) (xs.getD 3 0)
theorem dcN_b (xs : List Nat) : 1 ≤ (dcN xs).2 ∧ (dcN xs).1 ≤ 1114111 := by
  unfold dcN Lib.decodeN
  generalize xs.getD 0 0 = b0
  generalize xs.getD 1 0 = b1
  generalize xs.getD 2 0 = b2
  generalize xs.getD 3 0 = b3
  repeat' split
  all_goals (constructor <;> dsimp only <;> omega)
def rnL : Nat → List Nat → List Nat
  | 0, _ => []
  | n + 1, xs => if xs = [] then [] else (dcN xs).1 :: rnL n (xs.drop (dcN xs).2)
def rns (xs : List Nat) : List Nat := rnL xs.length xs
theorem rnL_more : ∀ (n m : Nat) (xs : List Nat), xs.length ≤ n → xs.length ≤ m → rnL n xs = rnL m xs := by
  intro n
  induction n with
  | zero =>
    intro m xs h _
    have : xs = [] := List.length_eq_zero_iff.1 (by omega)
    subst this
    cases m with
    | zero => rfl
    | succ m => simp [rnL]
  | succ n ih =>
    intro m xs h h'
    cases m with
    | zero =>
      have : xs = [] := List.length_eq_zero_iff.1 (by omega)
      subst this
      simp [rnL]
    | succ m =>
      rw [rnL, rnL]
      by_cases hx : xs = []
      · rw [if_pos hx, if_pos hx]
      · rw [if_neg hx, if_neg hx]
        have h1 := (dcN_b xs).1
        have h2 := List.length_pos_iff.2 hx
        rw [ih m _ (by rw [List.length_drop]; omega) (by rw [List.length_drop]; omega)]
theorem rns_nil : rns [] = [] := rfl
theorem rns_cons {xs : List Nat} (h : xs ≠ []) : rns xs = (dcN xs).1 :: rns (xs.drop (dcN xs).2) := by
  have h2 := List.length_pos_iff.2 h
  have h1 := (dcN_b xs).1
  unfold rns
  obtain ⟨n, hn⟩ : ∃ n, xs.length = n + 1 := ⟨xs.length - 1, by omega⟩
  rw [hn, rnL, if_neg h]
  rw [rnL_more n (xs.drop (dcN xs).2).length _ (by rw [List.length_drop]; omega) (Nat.le_refl _)]
theorem rns_len : ∀ (n : Nat) (xs : List Nat), (rnL n xs).length ≤ n := by
  intro n
  induction n with
  | zero => intro xs; exact Nat.le_refl _
  | succ n ih =>
    intro xs
    rw [rnL]
    split
    · exact Nat.zero_le _
    · rw [List.length_cons]
      have := ih (xs.drop (dcN xs).2)
      omega
theorem rns_le : ∀ (n : Nat) (xs : List Nat), ∀ r ∈ rnL n xs, r ≤ 1114111 := by
  intro n
  induction n with
  | zero => intro xs r hr; cases hr
  | succ n ih =>
    intro xs r hr
    rw [rnL] at hr
    split at hr
    · cases hr
    · rcases List.mem_cons.1 hr with rfl | hr
      · exact (dcN_b xs).2
      · exact ih _ r hr
theorem sb_get (s : ByteArray) (i : Nat) : (s.get! i).toNat = (sb s).getD i 0 := by
  obtain ⟨d⟩ := s
  show (d[i]!).toNat = ((d.toList).map UInt8.toNat).getD i 0
  by_cases h : i < d.size
  · rw [getElem!_pos d i h]
    simp [List.getD, h]
  · rw [getElem!_neg d i h]
    simp [List.getD, h]
    rfl
theorem sb_size (s : ByteArray) : (sb s).length = s.size := by simp [sb]
/-- The model's decoding is that. -/
theorem dc_eq (s : ByteArray) (i : Nat) : Utf8.decode s i = dcN ((sb s).drop i) := by
  rw [Lib.decode_at, sb_get, sb_get, sb_get, sb_get, dcN, List.length_drop, sb_size]
  simp [List.getD, List.getElem?_drop]
/-- The model's row of runes is that. -/
theorem runes_eq (s : ByteArray) : ∀ (bound i : Nat) (acc : Array Value), s.size ≤ i + bound → (Conv.runesFrom s bound i acc).toList = acc.toList ++ (rns ((sb s).drop i)).map (fun r : Nat => Value.int .i32 (r : Int)) := by
  intro bound
  induction bound with
  | zero =>
    intro i acc h
    have : (sb s).drop i = [] := List.drop_eq_nil_of_le (by rw [sb_size]; omega)
    rw [this, rns_nil, Conv.runesFrom]
    simp
  | succ bound ih =>
    intro i acc h
    rw [Conv.runesFrom]
    by_cases hi : i < s.size
    · have hne : (sb s).drop i ≠ [] := fun e => by
        have := congrArg List.length e
        rw [List.length_drop, sb_size] at this
        simp at this
        omega
      have h1 := (dcN_b ((sb s).drop i)).1
      rw [if_pos hi, rns_cons hne, dc_eq]
      dsimp only
      rw [ih _ _ (by omega), Array.toList_push, List.drop_drop, List.map_cons, List.append_assoc]
      rfl
    · have : (sb s).drop i = [] := List.drop_eq_nil_of_le (by rw [sb_size]; omega)
      rw [if_neg hi, this, rns_nil]
      simp

/-- A rune's bytes. -/
def fixR (r : Int) : Nat := if Utf8.valid r then r.toNat else 65533
def encR (r : Int) : List Nat := sb (Utf8.encode r)
theorem fixR_b (r : Int) : fixR r ≤ 1114111 ∧ ¬ (55296 ≤ fixR r ∧ fixR r < 57344) := by
  unfold fixR
  by_cases h : Utf8.valid r = true
  · rw [if_pos h]
    unfold Utf8.valid at h
    simp only [Bool.or_eq_true, Bool.and_eq_true, decide_eq_true_iff] at h
    omega
  · rw [if_neg h]
    omega
def encN (c : Nat) : List Nat := if c < 128 then [c] else if c < 2048 then [192 + c / 64, 128 + c % 64] else if c < 65536 then [224 + c / 4096, 128 + c / 64 % 64, 128 + c % 64] else [240 + c / 262144, 128 + c / 4096 % 64, 128 + c / 64 % 64, 128 + c % 64]
theorem u8_of {n : Nat} (h : n < 256) : (UInt8.ofNat n).toNat = n := by simp [UInt8.toNat_ofNat]; omega
theorem encR_eq (r : Int) : encR r = encN (fixR r) := by
  have hb := fixR_b r
  have e : (if Utf8.valid r then r.toNat else Utf8.runeError) = fixR r := rfl
  unfold encR Utf8.encode
  dsimp only
  rw [e]
  generalize fixR r = c at *
  unfold encN
  split
  · show [(UInt8.ofNat c).toNat] = _
    rw [u8_of (by omega)]
  · split
    · show [(UInt8.ofNat (192 + c / 64)).toNat, (UInt8.ofNat (128 + c % 64)).toNat] = _
      rw [u8_of (by omega), u8_of (by omega)]
    · split
      · show [(UInt8.ofNat (224 + c / 4096)).toNat, (UInt8.ofNat (128 + c / 64 % 64)).toNat, (UInt8.ofNat (128 + c % 64)).toNat] = _
        rw [u8_of (by omega), u8_of (by omega), u8_of (by omega)]
      · show [(UInt8.ofNat (240 + c / 262144)).toNat, (UInt8.ofNat (128 + c / 4096 % 64)).toNat, (UInt8.ofNat (128 + c / 64 % 64)).toNat, (UInt8.ofNat (128 + c % 64)).toNat] = _
        rw [u8_of (by omega), u8_of (by omega), u8_of (by omega), u8_of (by omega)]
set_option maxHeartbeats 2000000 in
set_option maxRecDepth 100000 in
theorem dc_enc {c : Nat} (h1 : c ≤ 1114111) (h2 : ¬ (55296 ≤ c ∧ c < 57344)) (Z : List Nat) : dcN (encN c ++ Z) = (c, (encN c).length) := by
  unfold encN
  split
  · unfold dcN Lib.decodeN
    simp only [List.cons_append, List.nil_append, List.getD_cons_zero]
    rw [if_pos (by omega)]
    rfl
  · split
    · unfold dcN Lib.decodeN
      simp only [List.cons_append, List.nil_append, List.getD_cons_zero, List.getD_cons_succ, List.length_cons]
      rw [if_neg (by omega), if_pos ⟨by omega, by omega, by omega⟩, if_pos (by omega)]
      refine Prod.ext ?_ rfl
      show _ = c
      dsimp only
      omega
    · split
      · unfold dcN Lib.decodeN
        simp only [List.cons_append, List.nil_append, List.getD_cons_zero, List.getD_cons_succ, List.length_cons]
        have e : (224 + c / 4096) % 16 * 4096 + (128 + c / 64 % 64) % 64 * 64 + (128 + c % 64) % 64 = c := by omega
        rw [if_neg (by omega), if_neg (fun h => by omega), if_pos ⟨by omega, ⟨by omega, by omega⟩, by omega, by omega⟩, e, if_pos ⟨by omega, by omega⟩]
        rfl
      · unfold dcN Lib.decodeN
        simp only [List.cons_append, List.nil_append, List.getD_cons_zero, List.getD_cons_succ, List.length_cons]
        have e : (240 + c / 262144) % 8 * 262144 + (128 + c / 4096 % 64) % 64 * 4096 + (128 + c / 64 % 64) % 64 * 64 + (128 + c % 64) % 64 = c := by omega
        rw [if_neg (by omega), if_neg (fun h => by omega), if_neg (fun h => by omega), if_pos ⟨by omega, ⟨by omega, by omega⟩, ⟨by omega, by omega⟩, by omega, by omega⟩, e, if_pos ⟨by omega, by omega⟩]
        rfl
theorem encN_ne (c : Nat) : encN c ≠ [] := by unfold encN; repeat' split
                                              all_goals (intro e; cases e)
theorem rns_enc (r : Int) (Z : List Nat) : rns (encR r ++ Z) = fixR r :: rns Z := by
  have hb := fixR_b r
  rw [encR_eq]
  have hne : encN (fixR r) ++ Z ≠ [] := fun e => encN_ne _ (List.append_eq_nil_iff.1 e).1
  rw [rns_cons hne, dc_enc hb.1 hb.2]
  dsimp only
  rw [List.drop_left]
theorem rns_encs : ∀ (rs : List Int) (Z : List Nat), rns ((rs.map encR).flatten ++ Z) = rs.map fixR ++ rns Z := by
  intro rs
  induction rs with
  | nil => intro Z; rfl
  | cons r rs ih =>
    intro Z
    rw [List.map_cons, List.flatten_cons, List.append_assoc, rns_enc, ih]
    rfl
theorem sb_app (a b : ByteArray) : sb (a ++ b) = sb a ++ sb b := by
  unfold sb
  rw [ByteArray.data_append, Array.toList_append, List.map_append]
theorem sb_runes (ns : List Int) : sb (runesBytes ns) = (ns.map encR).flatten := by
  have key : ∀ (ns : List Int) (s : ByteArray), sb (ns.foldl (fun r n => r ++ Utf8.encode n) s) = sb s ++ (ns.map encR).flatten := by
    intro ns
    induction ns with
    | nil => intro s; simp
    | cons n ns ih =>
      intro s
      rw [List.foldl_cons, ih, sb_app, List.map_cons, List.flatten_cons, List.append_assoc]
      rfl
  have := key ns ByteArray.empty
  rw [show sb ByteArray.empty = [] from rfl, List.nil_append] at this
  exact this
/-- The glyphs of a text. -/
def mpC (l : List Rn) (xs : List Nat) : List Int := (rns xs).map (fun r : Nat => glR (r : Int) l)
theorem mpC_nil (l : List Rn) : mpC l [] = [] := rfl
theorem mpC_cons {l : List Rn} {xs : List Nat} (h : xs ≠ []) : mpC l xs = glR ((dcN xs).1 : Int) l :: mpC l (xs.drop (dcN xs).2) := by
  unfold mpC
  rw [rns_cons h]
  rfl
theorem mpC_len (l : List Rn) (xs : List Nat) : (mpC l xs).length ≤ xs.length := by unfold mpC; rw [List.length_map]; exact rns_len _ _
theorem mpC_behind (l : List Rn) (rs : List Int) (Z : List Nat) : mpC l ((rs.map encR).flatten ++ Z) = mpC l (rs.map encR).flatten ++ mpC l Z ∧ (mpC l (rs.map encR).flatten).length = rs.length := by
  have h1 := rns_encs rs Z
  have h2 := rns_encs rs []
  rw [List.append_nil, rns_nil, List.append_nil] at h2
  unfold mpC
  rw [h1, h2, List.map_append]
  exact ⟨rfl, by simp⟩

end Go.Proofs.Ytgambbmonbhpnaa
