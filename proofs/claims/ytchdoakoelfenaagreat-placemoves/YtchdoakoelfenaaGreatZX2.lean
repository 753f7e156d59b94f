/-
  Lookups that move glyphs: formed; done at a place, in a line, one behind the other (plain mathematics). What rounds a rule's numbers is any function.
  Lookups that move glyphs: what the laws of layer 21 ask of mathematics. Glyphs are kept; Moves add up; an anchored mark (plain mathematics).
-/
import Derived.Test.YtchdoakoelfenaaGreatZX1
namespace Go.Proofs.YtchdoakoelfenaaGreat
set_option linter.unusedSimpArgs false
set_option linter.unusedVariables false

/-- A glyph that is laid. -/
structure Pd where
  g : Int
  x : Int
  y : Int
  a : Int
def Pd.none : Pd := ⟨0, 0, 0, 0⟩
/-- A lookup that moves. -/
def mvB (k : Int) : Bool := decide (5 ≤ k) && decide (k ≤ 7)
theorem mvB_iff {k : Int} : mvB k = true ↔ k = 5 ∨ k = 6 ∨ k = 7 := by unfold mvB; rw [Bool.and_eq_true, decide_eq_true_iff, decide_eq_true_iff]; omega
/-- How many glyphs a rule has. -/
def inN (kd : Int) : Nat := if kd = 5 then 1 else 2
/-- A rule that moves is formed; fi: which slots fit. -/
def prB (fi : Int → Int → Bool) (kd : Int) (sk : Bool) (r : Ru) (g : Int) : Bool :=
  (((decide (r.inn.length = inN kd) && decide (r.out.length = 0)) && (decide (r.ap = 0) && decide (r.lk = 0))) && r.inn.all (gyB g)) && ((fi r.x.1 r.x.2 && (fi r.y.1 r.y.2 && fi r.w.1 r.w.2)) && (!decide (kd = 7) || (!sk && decide (r.w = (0, -1)))))
def plF (fi : Int → Int → Bool) (g : Int) (x : Lk) : Bool := !mvB x.kd || (decide (x.rs.length ≤ 40) && x.rs.all (fun r => prB fi x.kd x.sk r g))
def foM20 (fi : Int → Int → Bool) (l : List Lk) (g : Int) : Bool := decide (l.length ≤ 10) && l.all (plF fi g)
theorem foM20_iff {fi : Int → Int → Bool} {l : List Lk} {g : Int} : foM20 fi l g = true ↔ l.length ≤ 10 ∧ ∀ k, k < l.length → plF fi g (l.getD k Lk.none) = true := by
  unfold foM20
  rw [Bool.and_eq_true, decide_eq_true_iff, List.all_eq_true]
  constructor
  · rintro ⟨h1, h2⟩
    exact ⟨h1, fun k hk => h2 _ (by rw [List.getD_eq_getElem?_getD, List.getElem?_eq_getElem hk]; exact List.getElem_mem hk)⟩
  · rintro ⟨h1, h2⟩
    refine ⟨h1, fun x hx => ?_⟩
    obtain ⟨k, hk, e⟩ := List.getElem_of_mem hx
    have := h2 k hk
    rw [List.getD_eq_getElem?_getD, List.getElem?_eq_getElem hk, Option.getD_some, e] at this
    exact this
theorem foM20_long {fi : Int → Int → Bool} {l : List Lk} {g : Int} (h : 10 < l.length) : foM20 fi l g = false := by
  unfold foM20
  rw [decide_eq_false (by omega)]
  rfl
theorem foM20_bad {fi : Int → Int → Bool} {l : List Lk} {g : Int} {k : Nat} (hk : k < l.length) (h : plF fi g (l.getD k Lk.none) = false) : foM20 fi l g = false := by
  cases hf : foM20 fi l g with
  | false => rfl
  | true => rw [(foM20_iff.1 hf).2 k hk] at h; cases h
theorem plF_other {fi : Int → Int → Bool} {g : Int} {x : Lk} (h : mvB x.kd = false) : plF fi g x = true := by unfold plF; rw [h]; rfl
theorem plF_iff {fi : Int → Int → Bool} {g : Int} {x : Lk} (h : mvB x.kd = true) : plF fi g x = true ↔ x.rs.length ≤ 40 ∧ ∀ k, k < x.rs.length → prB fi x.kd x.sk (x.rs.getD k Ru.none) g = true := by
  unfold plF
  rw [h]
  simp only [Bool.not_true, Bool.false_or]
  rw [Bool.and_eq_true, decide_eq_true_iff, List.all_eq_true]
  constructor
  · rintro ⟨h1, h2⟩
    exact ⟨h1, fun k hk => h2 _ (by rw [List.getD_eq_getElem?_getD, List.getElem?_eq_getElem hk]; exact List.getElem_mem hk)⟩
  · rintro ⟨h1, h2⟩
    refine ⟨h1, fun x hx => ?_⟩
    obtain ⟨k, hk, e⟩ := List.getElem_of_mem hx
    have := h2 k hk
    rw [List.getD_eq_getElem?_getD, List.getElem?_eq_getElem hk, Option.getD_some, e] at this
    exact this
theorem plF_long {fi : Int → Int → Bool} {g : Int} {x : Lk} (h : mvB x.kd = true) (hl : 40 < x.rs.length) : plF fi g x = false := by
  cases hf : plF fi g x with
  | false => rfl
  | true => have := ((plF_iff h).1 hf).1; omega
theorem plF_bad {fi : Int → Int → Bool} {g : Int} {x : Lk} {k : Nat} (h : mvB x.kd = true) (hk : k < x.rs.length) (hr : prB fi x.kd x.sk (x.rs.getD k Ru.none) g = false) : plF fi g x = false := by
  cases hf : plF fi g x with
  | false => rfl
  | true => rw [((plF_iff h).1 hf).2 k hk] at hr; cases hr
/-- What a formed rule is. -/
structure PrF (fi : Int → Int → Bool) (kd : Int) (sk : Bool) (r : Ru) : Prop where
  inn : r.inn.length = inN kd
  fx : fi r.x.1 r.x.2 = true
  fy : fi r.y.1 r.y.2 = true
  fw : fi r.w.1 r.w.2 = true
  an : kd = 7 → sk = false ∧ r.w = (0, -1)
theorem pr_f {fi : Int → Int → Bool} {kd : Int} {sk : Bool} {r : Ru} {g : Int} (h : prB fi kd sk r g = true) : PrF fi kd sk r := by
  unfold prB at h
  simp only [Bool.and_eq_true, Bool.or_eq_true, Bool.not_eq_true', decide_eq_true_iff, decide_eq_false_iff_not] at h
  obtain ⟨⟨⟨⟨h1, _⟩, _⟩, _⟩, ⟨h2, h3, h4⟩, h5⟩ := h
  refine ⟨h1, h2, h3, h4, fun e => ?_⟩
  rcases h5 with h5 | h5
  · exact absurd e h5
  · exact h5
theorem pr_mem {fi : Int → Int → Bool} {l : List Lk} {g : Int} (hf : foM20 fi l g = true) {k : Nat} (hk : k < l.length) (hp : mvB (l.getD k Lk.none).kd = true) {r : Ru} (hr : r ∈ (l.getD k Lk.none).rs) : PrF fi (l.getD k Lk.none).kd (l.getD k Lk.none).sk r := by
  have h := (foM20_iff.1 hf).2 k hk
  unfold plF at h
  rw [hp] at h
  simp only [Bool.not_true, Bool.false_or] at h
  rw [Bool.and_eq_true, List.all_eq_true] at h
  exact pr_f (h.2 r hr)

/-- A line laid. -/
def laL (line adv : List Int) : List Pd := (List.range line.length).map (fun i => ⟨line.getD i 0, 0, 0, adv.getD i 0⟩)
theorem laL_len (line adv : List Int) : (laL line adv).length = line.length := by simp [laL]
theorem laL_at {line adv : List Int} {i : Nat} (hi : i < line.length) : (laL line adv).getD i Pd.none = ⟨line.getD i 0, 0, 0, adv.getD i 0⟩ := by simp [laL, List.getD, hi]
theorem laK_succ (line adv : List Int) (k : Nat) : (List.range (k + 1)).map (fun i => (⟨line.getD i 0, 0, 0, adv.getD i 0⟩ : Pd)) = (List.range k).map (fun i => (⟨line.getD i 0, 0, 0, adv.getD i 0⟩ : Pd)) ++ [⟨line.getD k 0, 0, 0, adv.getD k 0⟩] := by rw [List.range_succ, List.map_append]; rfl
/-- The glyphs of a laid line. -/
def naL (P : List Pd) : List Int := P.map Pd.g
theorem naL_len (P : List Pd) : (naL P).length = P.length := by simp [naL]
theorem naL_at (P : List Pd) (i : Nat) : (naL P).getD i 0 = (P.getD i Pd.none).g := by
  unfold naL
  rw [List.getD_eq_getElem?_getD, List.getElem?_map, List.getD_eq_getElem?_getD]
  cases P[i]? <;> rfl
/-- Whether a rule applies at a place: the next place, the base. -/
def apN (ms : List Bool) (kd : Int) (sk : Bool) (L : List Int) (i : Nat) (A : List Int) : Option (Int × Int) :=
  if kd = 5 then (if A.getD 0 0 = L.getD i 0 then some ((i : Int) + 1, 0) else none)
  else if kd = 6 then (meQ ms L sk (i : Int) A).map (fun m => (m.getD 1 0, 0))
  else if mkB ms (L.getD i 0) = true ∧ A.getD 1 0 = L.getD i 0 ∧ bkQ ms L (i : Int) ≠ -1 ∧ A.getD 0 0 = L.getD (bkQ ms L (i : Int)).toNat 0 then some ((i : Int) + 1, bkQ ms L (i : Int)) else none
/-- The first rule that applies. -/
def fsR (ms : List Bool) (kd : Int) (sk : Bool) (L : List Int) (i : Nat) : List Ru → Option (Ru × Int × Int)
  | [] => none
  | r :: t => match apN ms kd sk L i r.inn with
    | none => fsR ms kd sk L i t
    | some p => some (r, p)
theorem fsR_skip {ms : List Bool} {kd : Int} {sk : Bool} {L : List Int} {i : Nat} {rs : List Ru} {k : Nat} (hk : k < rs.length) (h : apN ms kd sk L i (rs.getD k Ru.none).inn = none) : fsR ms kd sk L i (rs.drop k) = fsR ms kd sk L i (rs.drop (k + 1)) := by
  rw [List.drop_eq_getElem_cons hk, fsR]
  rw [List.getD_eq_getElem?_getD, List.getElem?_eq_getElem hk, Option.getD_some] at h
  rw [h]
theorem fsR_met {ms : List Bool} {kd : Int} {sk : Bool} {L : List Int} {i : Nat} {rs : List Ru} {k : Nat} (hk : k < rs.length) {p : Int × Int} (h : apN ms kd sk L i (rs.getD k Ru.none).inn = some p) : fsR ms kd sk L i (rs.drop k) = some (rs.getD k Ru.none, p) := by
  rw [List.drop_eq_getElem_cons hk, fsR]
  rw [List.getD_eq_getElem?_getD, List.getElem?_eq_getElem hk, Option.getD_some] at h ⊢
  rw [h]
theorem fsR_end {ms : List Bool} {kd : Int} {sk : Bool} {L : List Int} {i : Nat} {rs : List Ru} : fsR ms kd sk L i (rs.drop rs.length) = none := by rw [List.drop_length]; rfl
theorem fsR_of {ms : List Bool} {kd : Int} {sk : Bool} {L : List Int} {i : Nat} : ∀ {rs : List Ru} {q : Ru × Int × Int}, fsR ms kd sk L i rs = some q → q.1 ∈ rs ∧ apN ms kd sk L i q.1.inn = some q.2 := by
  intro rs
  induction rs with
  | nil => intro q h; cases h
  | cons r t ih =>
    intro q h
    rw [fsR] at h
    cases hm : apN ms kd sk L i r.inn with
    | none =>
      rw [hm] at h
      obtain ⟨h1, h2⟩ := ih h
      exact ⟨List.mem_cons_of_mem _ h1, h2⟩
    | some p =>
      rw [hm] at h
      injection h with h
      subst h
      exact ⟨List.mem_cons_self .., hm⟩
/-- The Advances from a place on, n of them. -/
def adS (P : List Pd) (b : Nat) : Nat → Int
  | 0 => 0
  | n + 1 => adS P b n + (P.getD (b + n) Pd.none).a
/-- A number as an int holds it. -/
def w6 (z : Int) : Int := IntKind.i64.wrap z
theorem w6_eq (z : Int) : IntKind.i64.wrap z = w6 z := rfl
theorem w6_mod (z : Int) : w6 z = (z + 9223372036854775808) % 18446744073709551616 - 9223372036854775808 := by
  unfold w6
  simp only [IntKind.wrap, IntKind.bits, IntKind.signed]
  simp
  omega
theorem w6_64 (z : Int) : Go.RowKit.wrap64 z = w6 z := by rw [w6_mod]; unfold Go.RowKit.wrap64; rfl
theorem w6_id {z : Int} (h1 : -9223372036854775808 ≤ z) (h2 : z ≤ 9223372036854775807) : w6 z = z := by rw [w6_mod]; omega
theorem w6_in (z : Int) : I64 (w6 z) := by rw [w6_mod]; unfold I64; omega
theorem w6_add (a b : Int) : w6 (w6 a + b) = w6 (a + b) := by rw [w6_mod a, w6_mod, w6_mod]; omega
theorem w6_sub (a b : Int) : w6 (w6 a - b) = w6 (a - b) := by rw [w6_mod a, w6_mod, w6_mod]; omega
/-- What becomes of a glyph. -/
def mvP (kd : Int) (P : List Pd) (i b : Nat) (dx dy w : Int) : Pd :=
  ⟨(P.getD i Pd.none).g, w6 ((if kd = 7 then (P.getD b Pd.none).x - adS P b (i - b) else (P.getD i Pd.none).x) + dx), w6 ((if kd = 7 then (P.getD b Pd.none).y else (P.getD i Pd.none).y) + dy), w6 ((P.getD i Pd.none).a + w)⟩
/-- A lookup done at a place: none where a number leaves its field. -/
def onP (ro re : Int × Int → Int) (ms : List Bool) (x : Lk) (P : List Pd) (i : Nat) : Option (List Pd × Int) :=
  if x.sk && mkB ms ((naL P).getD i 0) then some (P, (i : Int) + 1)
  else match fsR ms x.kd x.sk (naL P) i x.rs with
    | none => some (P, (i : Int) + 1)
    | some (r, nx, b) => if re r.x = 0 ∧ re r.y = 0 ∧ re r.w = 0 then some (P.set i (mvP x.kd P i b.toNat (ro r.x) (ro r.y) (ro r.w)), nx) else none
/-- A lookup done in a line from a place on. -/
def ruF20 (ro re : Int × Int → Int) (ms : List Bool) (x : Lk) : Nat → List Pd → Int → Option (List Pd)
  | 0, P, _ => some P
  | n + 1, P, i => if i < (P.length : Int) then (match onP ro re ms x P i.toNat with
      | none => none
      | some (Q, nx) => ruF20 ro re ms x n Q nx)
    else some P
theorem apN_gt {ms : List Bool} {kd : Int} {sk : Bool} {L : List Int} {i : Nat} {A : List Int} {p : Int × Int} (h : apN ms kd sk L i A = some p) (hA : kd = 6 → A.length = 2) : (i : Int) < p.1 ∧ p.1 ≤ (L.length : Int) + (i : Int) + 1 := by
  unfold apN at h
  by_cases h5 : kd = 5
  · rw [if_pos h5] at h
    split at h
    · injection h with h; subst h; exact ⟨by show (i : Int) < (i : Int) + 1; omega, by show (i : Int) + 1 ≤ _; omega⟩
    · cases h
  · rw [if_neg h5] at h
    by_cases h6 : kd = 6
    · rw [if_pos h6] at h
      cases hm : meQ ms L sk (i : Int) A with
      | none => rw [hm] at h; cases h
      | some m =>
        rw [hm] at h
        injection h with h
        subst h
        have hM := me_r hm
        have hl : 1 < m.length := by rw [hM.len, hA h6]; omega
        have h1 := hM.lo hl
        have h2 := hM.hi hl
        refine ⟨by show (i : Int) < m.getD 1 0; omega, by show m.getD 1 0 ≤ _; omega⟩
    · rw [if_neg h6] at h
      split at h
      · injection h with h; subst h; exact ⟨by show (i : Int) < (i : Int) + 1; omega, by show (i : Int) + 1 ≤ _; omega⟩
      · cases h
/-- What is kept. -/
theorem on_keep {ro re : Int × Int → Int} {ms : List Bool} {x : Lk} {P Q : List Pd} {i : Nat} {nx : Int} (h : onP ro re ms x P i = some (Q, nx)) (hx : ∀ r ∈ x.rs, x.kd = 6 → r.inn.length = 2) : Q.length = P.length ∧ naL Q = naL P ∧ (i : Int) < nx ∧ nx ≤ (P.length : Int) + (i : Int) + 1 := by
  unfold onP at h
  split at h
  · injection h with h; injection h with h1 h2; subst h1 h2; exact ⟨rfl, rfl, by omega, by omega⟩
  · cases hf : fsR ms x.kd x.sk (naL P) i x.rs with
    | none => rw [hf] at h; injection h with h; injection h with h1 h2; subst h1 h2; exact ⟨rfl, rfl, by omega, by omega⟩
    | some q =>
      obtain ⟨r, n1, b⟩ := q
      rw [hf] at h
      dsimp only at h
      split at h
      · injection h with h
        injection h with h1 h2
        subst h1 h2
        obtain ⟨hm, ha⟩ := fsR_of hf
        have hg := apN_gt ha (hx r hm)
        rw [naL_len] at hg
        refine ⟨List.length_set .., ?_, hg⟩
        unfold naL
        rw [List.map_set]
        apply List.ext_getElem?
        intro k
        by_cases hk : k = i
        · subst hk
          by_cases hk2 : k < P.length
          · simp [hk2, mvP, List.getD]
          · rw [List.getElem?_eq_none (by rw [List.length_set, List.length_map]; omega), List.getElem?_eq_none (by rw [List.length_map]; omega)]
        · rw [List.getElem?_set_ne (fun e => hk e.symm)]
      · cases h
theorem ruF_more {ro re : Int × Int → Int} {ms : List Bool} {x : Lk} (hx : ∀ r ∈ x.rs, x.kd = 6 → r.inn.length = 2) : ∀ (n m : Nat) (P : List Pd) (i : Int), 0 ≤ i → (P.length : Int) - i ≤ (n : Int) → n ≤ m → ruF20 ro re ms x m P i = ruF20 ro re ms x n P i := by
  intro n
  induction n with
  | zero =>
    intro m P i h0 h1 _
    cases m with
    | zero => rfl
    | succ m => rw [ruF20, ruF20, if_neg (by omega)]
  | succ n ih =>
    intro m P i h0 h1 h2
    obtain ⟨m, rfl⟩ : ∃ m', m = m' + 1 := ⟨m - 1, by omega⟩
    rw [ruF20, ruF20]
    by_cases hi : i < (P.length : Int)
    · rw [if_pos hi, if_pos hi]
      cases ho : onP ro re ms x P i.toNat with
      | none => rfl
      | some q =>
        obtain ⟨Q, nx⟩ := q
        obtain ⟨k1, _, k2, _⟩ := on_keep ho hx
        exact ih m Q nx (by omega) (by omega) (by omega)
    · rw [if_neg hi, if_neg hi]
/-- A line behind a lookup: as far as the loop has come. -/
def ruQ (ro re : Int × Int → Int) (ms : List Bool) (x : Lk) (P : List Pd) (i : Int) : Option (List Pd) := ruF20 ro re ms x (P.length - i.toNat) P i
theorem ruQ_end {ro re : Int × Int → Int} {ms : List Bool} {x : Lk} {P : List Pd} {i : Int} (h0 : 0 ≤ i) (h : ¬ i < (P.length : Int)) : ruQ ro re ms x P i = some P := by
  unfold ruQ
  rw [show P.length - i.toNat = 0 by omega, ruF20]
theorem ruQ_bad {ro re : Int × Int → Int} {ms : List Bool} {x : Lk} {P : List Pd} {i : Nat} (h : i < P.length) (ho : onP ro re ms x P i = none) : ruQ ro re ms x P (i : Int) = none := by
  unfold ruQ
  rw [Int.toNat_natCast]
  obtain ⟨n, hn⟩ : ∃ n, P.length - i = n + 1 := ⟨P.length - i - 1, by omega⟩
  rw [hn, ruF20, if_pos (by omega), Int.toNat_natCast, ho]
theorem ruQ_on {ro re : Int × Int → Int} {ms : List Bool} {x : Lk} (hx : ∀ r ∈ x.rs, x.kd = 6 → r.inn.length = 2) {P Q : List Pd} {i : Nat} {nx : Int} (h : i < P.length) (ho : onP ro re ms x P i = some (Q, nx)) : ruQ ro re ms x P (i : Int) = ruQ ro re ms x Q nx := by
  unfold ruQ
  rw [Int.toNat_natCast]
  obtain ⟨n, hn⟩ : ∃ n, P.length - i = n + 1 := ⟨P.length - i - 1, by omega⟩
  obtain ⟨k1, _, k2, _⟩ := on_keep ho hx
  rw [hn, ruF20, if_pos (by omega), Int.toNat_natCast, ho]
  exact ruF_more hx _ n Q nx (by omega) (by omega) (by omega)
/-- One lookup behind the other: the error, the line. -/
def alM (ro re : Int × Int → Int) (ms : List Bool) (l : List Lk) : List Int → List Pd → Int × List Pd
  | [], P => (0, P)
  | k :: t, P => if 0 ≤ k ∧ k < (l.length : Int) then
      (if mvB (l.getD k.toNat Lk.none).kd then (match ruQ ro re ms (l.getD k.toNat Lk.none) P 0 with
        | none => (4, [])
        | some Q => alM ro re ms l t Q)
      else alM ro re ms l t P)
    else (5, [])
/-- All's answer. -/
def paE (fi : Int → Int → Bool) (ro re : Int × Int → Int) (ms : List Bool) (l : List Lk) (ks : List Int) (P : List Pd) : Int × List Pd :=
  if foM20 fi l 65536 then (if 100 < P.length then (3, []) else alM ro re ms l ks P) else (1, [])
theorem alM_end {ro re : Int × Int → Int} {ms : List Bool} {l : List Lk} {ks : List Int} {P : List Pd} : alM ro re ms l (ks.drop ks.length) P = (0, P) := by rw [List.drop_length]; rfl
theorem alM_none {ro re : Int × Int → Int} {ms : List Bool} {l : List Lk} {ks : List Int} {P : List Pd} {r : Nat} (hr : r < ks.length) (h : ¬ (0 ≤ ks.getD r 0 ∧ ks.getD r 0 < (l.length : Int))) : alM ro re ms l (ks.drop r) P = (5, []) := by
  rw [List.getD_eq_getElem?_getD, List.getElem?_eq_getElem hr, Option.getD_some] at h
  rw [List.drop_eq_getElem_cons hr, alM, if_neg h]
theorem alM_other {ro re : Int × Int → Int} {ms : List Bool} {l : List Lk} {ks : List Int} {P : List Pd} {r : Nat} {k : Nat} (hr : r < ks.length) (hk : ks.getD r 0 = (k : Int)) (hl : k < l.length) (h : mvB (l.getD k Lk.none).kd = false) : alM ro re ms l (ks.drop r) P = alM ro re ms l (ks.drop (r + 1)) P := by
  rw [List.getD_eq_getElem?_getD, List.getElem?_eq_getElem hr, Option.getD_some] at hk
  rw [List.drop_eq_getElem_cons hr, alM, hk, if_pos ⟨by omega, by omega⟩, Int.toNat_natCast, h]
  rfl
theorem alM_bad {ro re : Int × Int → Int} {ms : List Bool} {l : List Lk} {ks : List Int} {P : List Pd} {r : Nat} {k : Nat} (hr : r < ks.length) (hk : ks.getD r 0 = (k : Int)) (hl : k < l.length) (h : mvB (l.getD k Lk.none).kd = true) (hq : ruQ ro re ms (l.getD k Lk.none) P 0 = none) : alM ro re ms l (ks.drop r) P = (4, []) := by
  rw [List.getD_eq_getElem?_getD, List.getElem?_eq_getElem hr, Option.getD_some] at hk
  rw [List.drop_eq_getElem_cons hr, alM, hk, if_pos ⟨by omega, by omega⟩, Int.toNat_natCast, h, hq]
  rfl
theorem alM_on {ro re : Int × Int → Int} {ms : List Bool} {l : List Lk} {ks : List Int} {P Q : List Pd} {r : Nat} {k : Nat} (hr : r < ks.length) (hk : ks.getD r 0 = (k : Int)) (hl : k < l.length) (h : mvB (l.getD k Lk.none).kd = true) (hq : ruQ ro re ms (l.getD k Lk.none) P 0 = some Q) : alM ro re ms l (ks.drop r) P = alM ro re ms l (ks.drop (r + 1)) Q := by
  rw [List.getD_eq_getElem?_getD, List.getElem?_eq_getElem hr, Option.getD_some] at hk
  rw [List.drop_eq_getElem_cons hr, alM, hk, if_pos ⟨by omega, by omega⟩, Int.toNat_natCast, h, hq]
  rfl

end Go.Proofs.YtchdoakoelfenaaGreat

namespace Go.Proofs.YtchdoakoelfenaaGreat
set_option linter.unusedSimpArgs false
set_option linter.unusedVariables false

/-- A glyph that is laid, of numbers that ints hold. -/
def PdW (p : Pd) : Prop := I64 p.g ∧ I64 p.x ∧ I64 p.y ∧ I64 p.a
theorem inn_two {fi : Int → Int → Bool} {l : List Lk} {g : Int} (hf : foM20 fi l g = true) {k : Nat} (hk : k < l.length) (hp : mvB (l.getD k Lk.none).kd = true) : ∀ r ∈ (l.getD k Lk.none).rs, (l.getD k Lk.none).kd = 6 → r.inn.length = 2 := by
  intro r hr h6
  have := (pr_mem hf hk hp hr).inn
  rw [h6] at this
  exact this
theorem ru_keep {ro re : Int × Int → Int} {ms : List Bool} {x : Lk} (hx : ∀ r ∈ x.rs, x.kd = 6 → r.inn.length = 2) : ∀ (n : Nat) (P Q : List Pd) (i : Int), 0 ≤ i → ruF20 ro re ms x n P i = some Q → Q.length = P.length ∧ naL Q = naL P := by
  intro n
  induction n with
  | zero => intro P Q i _ h; rw [ruF20] at h; injection h with h; subst h; exact ⟨rfl, rfl⟩
  | succ n ih =>
    intro P Q i h0 h
    rw [ruF20] at h
    by_cases hi : i < (P.length : Int)
    · rw [if_pos hi] at h
      cases ho : onP ro re ms x P i.toNat with
      | none => rw [ho] at h; cases h
      | some q =>
        obtain ⟨R, nx⟩ := q
        rw [ho] at h
        obtain ⟨k1, k2, k3, _⟩ := on_keep ho hx
        obtain ⟨j1, j2⟩ := ih R Q nx (by omega) h
        exact ⟨by rw [j1, k1], by rw [j2, k2]⟩
    · rw [if_neg hi] at h
      injection h with h
      subst h
      exact ⟨rfl, rfl⟩
/-- PlaceKeeps. -/
theorem al_keep {fi : Int → Int → Bool} {ro re : Int × Int → Int} {ms : List Bool} {l : List Lk} (hf : foM20 fi l 65536 = true) : ∀ (ks : List Int) (P Q : List Pd), alM ro re ms l ks P = (0, Q) → Q.length = P.length ∧ naL Q = naL P := by
  intro ks
  induction ks with
  | nil => intro P Q h; rw [alM] at h; injection h with _ h; subst h; exact ⟨rfl, rfl⟩
  | cons k t ih =>
    intro P Q h
    rw [alM] at h
    by_cases hk : 0 ≤ k ∧ k < (l.length : Int)
    · rw [if_pos hk] at h
      cases hm : mvB (l.getD k.toNat Lk.none).kd with
      | false => rw [hm] at h; exact ih P Q h
      | true =>
        rw [hm, if_pos rfl] at h
        cases hq : ruQ ro re ms (l.getD k.toNat Lk.none) P 0 with
        | none => rw [hq] at h; injection h with h _; cases h
        | some R =>
          rw [hq] at h
          obtain ⟨k1, k2⟩ := ru_keep (inn_two hf (by omega) hm) _ P R 0 (Int.le_refl _) hq
          obtain ⟨j1, j2⟩ := ih R Q h
          exact ⟨by rw [j1, k1], by rw [j2, k2]⟩
    · rw [if_neg hk] at h
      injection h with h _
      cases h
theorem al_bad {ro re : Int × Int → Int} {ms : List Bool} {l : List Lk} : ∀ (ks : List Int) (P : List Pd), (alM ro re ms l ks P).1 ≠ 0 → (alM ro re ms l ks P).2 = [] := by
  intro ks
  induction ks with
  | nil => intro P h; exact absurd rfl h
  | cons k t ih =>
    intro P h
    rw [alM] at h ⊢
    split
    · next hk =>
      rw [if_pos hk] at h
      split
      · next hm =>
        rw [if_pos hm] at h
        cases hq : ruQ ro re ms (l.getD k.toNat Lk.none) P 0 with
        | none => rfl
        | some R => rw [hq] at h; exact ih R h
      · next hm => rw [if_neg hm] at h; exact ih P h
    · rfl
theorem pa_keep {fi : Int → Int → Bool} {ro re : Int × Int → Int} {ms : List Bool} {l : List Lk} {ks : List Int} {P Q : List Pd} (h : paE fi ro re ms l ks P = (0, Q)) : Q.length = P.length ∧ naL Q = naL P := by
  unfold paE at h
  cases hf : foM20 fi l 65536 with
  | false => rw [hf] at h; injection h with h _; cases h
  | true =>
    rw [hf, if_pos rfl] at h
    split at h
    · injection h with h _; cases h
    · exact al_keep hf ks P Q h
theorem pa_bad {fi : Int → Int → Bool} {ro re : Int × Int → Int} {ms : List Bool} {l : List Lk} {ks : List Int} {P : List Pd} (h : (paE fi ro re ms l ks P).1 ≠ 0) : (paE fi ro re ms l ks P).2 = [] := by
  unfold paE at h ⊢
  split
  · next hf =>
    rw [if_pos hf] at h
    split
    · rfl
    · next hl => rw [if_neg hl] at h; exact al_bad ks P h
  · rfl

/-- The nearest place back is ahead. -/
theorem bkF_lt {ms : List Bool} {L : List Int} : ∀ k, bkF ms L k = -1 ∨ ∃ b : Nat, bkF ms L k = (b : Int) ∧ b < k := by
  intro k
  induction k with
  | zero => exact .inl rfl
  | succ k ih =>
    cases hm : mkB ms (L.getD k 0) with
    | true =>
      rw [bkF_on hm]
      rcases ih with h | ⟨b, h1, h2⟩
      · exact .inl h
      · exact .inr ⟨b, h1, by omega⟩
    | false =>
      rw [bkF_off hm]
      exact .inr ⟨k, rfl, Nat.lt_succ_self _⟩
theorem bk_lt {ms : List Bool} {L : List Int} {i : Nat} (hi : i < L.length) : bkQ ms L (i : Int) = -1 ∨ ∃ b : Nat, bkQ ms L (i : Int) = (b : Int) ∧ b < i := by
  rw [bkQ_yes hi]
  exact bkF_lt i
/-- A lookup of one rule, without Skip. -/
theorem on_none {ro re : Int × Int → Int} {ms : List Bool} {kd : Int} {r : Ru} {P : List Pd} {i : Nat} (h : apN ms kd false (naL P) i r.inn = none) : onP ro re ms ⟨kd, false, [r]⟩ P i = some (P, (i : Int) + 1) := by
  unfold onP
  rw [Bool.false_and, if_neg (by decide)]
  have : fsR ms kd false (naL P) i [r] = none := by rw [fsR, h]; rfl
  show (match fsR ms kd false (naL P) i [r] with | none => some (P, (i : Int) + 1) | some (r, nx, b) => if re r.x = 0 ∧ re r.y = 0 ∧ re r.w = 0 then some (P.set i (mvP kd P i b.toNat (ro r.x) (ro r.y) (ro r.w)), nx) else none) = _
  rw [this]
theorem on_one {ro re : Int × Int → Int} {ms : List Bool} {kd : Int} {r : Ru} {P : List Pd} {i : Nat} {nx b : Int} (h : apN ms kd false (naL P) i r.inn = some (nx, b)) : onP ro re ms ⟨kd, false, [r]⟩ P i = if re r.x = 0 ∧ re r.y = 0 ∧ re r.w = 0 then some (P.set i (mvP kd P i b.toNat (ro r.x) (ro r.y) (ro r.w)), nx) else none := by
  unfold onP
  rw [Bool.false_and, if_neg (by decide)]
  have : fsR ms kd false (naL P) i [r] = some (r, nx, b) := by rw [fsR, h]
  show (match fsR ms kd false (naL P) i [r] with | none => some (P, (i : Int) + 1) | some (r, nx, b) => if re r.x = 0 ∧ re r.y = 0 ∧ re r.w = 0 then some (P.set i (mvP kd P i b.toNat (ro r.x) (ro r.y) (ro r.w)), nx) else none) = _
  rw [this]
/-- One rule of kind Move: what it does with a glyph. -/
def adP (g dx dy w : Int) (p : Pd) : Pd := if p.g = g then ⟨p.g, w6 (p.x + dx), w6 (p.y + dy), w6 (p.a + w)⟩ else p
theorem set_mapP {P : List Pd} {f : Pd → Pd} {i : Nat} (hi : i < P.length) : (P.take i).map f ++ (P.drop i) = (P.take i).map f ++ P.getD i Pd.none :: P.drop (i + 1) := by
  rw [List.drop_eq_getElem_cons hi]
  simp [List.getD, hi]
theorem mv_move {P : List Pd} {i b : Nat} {dx dy w : Int} : mvP 5 P i b dx dy w = ⟨(P.getD i Pd.none).g, w6 ((P.getD i Pd.none).x + dx), w6 ((P.getD i Pd.none).y + dy), w6 ((P.getD i Pd.none).a + w)⟩ := rfl
theorem ru_move {ro re : Int × Int → Int} {ms : List Bool} {r : Ru} {g : Int} (hin : r.inn = [g]) (ex : re r.x = 0) (ey : re r.y = 0) (ew : re r.w = 0) : ∀ (n : Nat) (A B : List Pd), B.length ≤ n →
    ruF20 ro re ms ⟨5, false, [r]⟩ n (A ++ B) (A.length : Int) = some (A ++ B.map (adP g (ro r.x) (ro r.y) (ro r.w))) := by
  intro n
  induction n with
  | zero =>
    intro A B hn
    have hB : B = [] := List.length_eq_zero_iff.1 (by omega)
    subst hB
    rfl
  | succ n ih =>
    intro A B hn
    cases B with
    | nil =>
      rw [ruF20, if_neg (by rw [List.append_nil]; omega)]
      rfl
    | cons p B =>
      have hg : (A ++ p :: B).getD A.length Pd.none = p := by simp [List.getD]
      have hon : onP ro re ms ⟨5, false, [r]⟩ (A ++ p :: B) A.length = some (A ++ adP g (ro r.x) (ro r.y) (ro r.w) p :: B, (A.length : Int) + 1) := by
        have hap : apN ms 5 false (naL (A ++ p :: B)) A.length r.inn = if g = p.g then some ((A.length : Int) + 1, 0) else none := by
          unfold apN
          rw [if_pos rfl, hin, naL_at, hg]
          rfl
        by_cases hp : g = p.g
        · rw [if_pos hp] at hap
          rw [on_one hap]
          show (if re r.x = 0 ∧ re r.y = 0 ∧ re r.w = 0 then _ else _) = _
          rw [if_pos ⟨ex, ey, ew⟩, mv_move, hg]
          unfold adP
          rw [if_pos hp.symm]
          simp
        · rw [if_neg hp] at hap
          rw [on_none hap]
          unfold adP
          rw [if_neg (fun e => hp e.symm)]
      rw [ruF20, if_pos (by rw [List.length_append, List.length_cons]; omega), Int.toNat_natCast, hon]
      show ruF20 ro re ms ⟨5, false, [r]⟩ n (A ++ adP g (ro r.x) (ro r.y) (ro r.w) p :: B) ((A.length : Int) + 1) = _
      have := ih (A ++ [adP g (ro r.x) (ro r.y) (ro r.w) p]) B (by simpa using hn)
      rw [List.append_assoc, List.length_append] at this
      rw [show ((A.length : Int) + 1) = ((A.length + [adP g (ro r.x) (ro r.y) (ro r.w) p].length : Nat) : Int) from rfl]
      rw [show A ++ adP g (ro r.x) (ro r.y) (ro r.w) p :: B = A ++ ([adP g (ro r.x) (ro r.y) (ro r.w) p] ++ B) from rfl, this]
      simp
theorem ruQ_move {ro re : Int × Int → Int} {ms : List Bool} {r : Ru} {g : Int} (hin : r.inn = [g]) (ex : re r.x = 0) (ey : re r.y = 0) (ew : re r.w = 0) (P : List Pd) : ruQ ro re ms ⟨5, false, [r]⟩ P 0 = some (P.map (adP g (ro r.x) (ro r.y) (ro r.w))) := by
  have := ru_move (ro := ro) (ms := ms) hin ex ey ew P.length [] P (Nat.le_refl _)
  exact this

/-- A place that a lookup of kind Anchor passes by. -/
theorem on_skip {ro re : Int × Int → Int} {ms : List Bool} {r : Ru} {P : List Pd} {i : Nat} (h : r.inn.getD 1 0 ≠ (naL P).getD i 0) : onP ro re ms ⟨7, false, [r]⟩ P i = some (P, (i : Int) + 1) := by
  refine on_none ?_
  unfold apN
  rw [if_neg (by decide), if_neg (by decide), if_neg (fun e => h e.2.1)]
theorem ru_skip {ro re : Int × Int → Int} {ms : List Bool} {r : Ru} {P : List Pd} : ∀ (n i m : Nat), i ≤ m → m ≤ P.length → (∀ j, i ≤ j → j < m → r.inn.getD 1 0 ≠ (naL P).getD j 0) → m - i ≤ n →
    ruF20 ro re ms ⟨7, false, [r]⟩ n P (i : Int) = ruF20 ro re ms ⟨7, false, [r]⟩ (n - (m - i)) P (m : Int) := by
  intro n
  induction n with
  | zero =>
    intro i m h1 h2 h3 h4
    obtain rfl : i = m := by omega
    rw [Nat.sub_self, Nat.sub_zero]
  | succ n ih =>
    intro i m h1 h2 h3 h4
    by_cases hi : i = m
    · subst hi
      rw [show n + 1 - (i - i) = n + 1 by omega]
    · rw [ruF20, if_pos (by omega), Int.toNat_natCast, on_skip (h3 i (Nat.le_refl _) (by omega))]
      show ruF20 ro re ms ⟨7, false, [r]⟩ n P ((i : Int) + 1) = _
      rw [show ((i : Int) + 1) = ((i + 1 : Nat) : Int) by omega, ih (i + 1) m (by omega) h2 (fun j h5 h6 => h3 j (by omega) h6) (by omega), show n + 1 - (m - i) = n - (m - (i + 1)) by omega]
/-- PlaceAnchors: the mark at the end. -/
theorem ruQ_anchor {ro re : Int × Int → Int} {ms : List Bool} {r : Ru} {P : List Pd} {m b : Nat} (hm : m + 1 = P.length) (hs : ∀ j, j < m → r.inn.getD 1 0 ≠ (naL P).getD j 0) (h3 : r.inn.getD 1 0 = (naL P).getD m 0) (hk : mkB ms ((naL P).getD m 0) = true) (hb : b < m) (hbm : mkB ms ((naL P).getD b 0) = false) (hbt : ∀ j, b < j → j < m → mkB ms ((naL P).getD j 0) = true) (h1 : r.inn.getD 0 0 = (naL P).getD b 0)
    (ex : re r.x = 0) (ey : re r.y = 0) (ew : re r.w = 0) : ruQ ro re ms ⟨7, false, [r]⟩ P 0 = some (P.set m (mvP 7 P m b (ro r.x) (ro r.y) (ro r.w))) := by
  have hbk : bkQ ms (naL P) (m : Int) = (b : Int) := by
    rw [bkQ_yes (by rw [naL_len]; omega)]
    exact bk_next m hb hbm hbt
  have hon : onP ro re ms ⟨7, false, [r]⟩ P m = some (P.set m (mvP 7 P m b (ro r.x) (ro r.y) (ro r.w)), (m : Int) + 1) := by
    have hap : apN ms 7 false (naL P) m r.inn = some ((m : Int) + 1, (b : Int)) := by
      unfold apN
      rw [if_neg (by decide), if_neg (by decide), if_pos ⟨hk, h3, by rw [hbk]; omega, by rw [hbk, Int.toNat_natCast]; exact h1⟩, hbk]
    rw [on_one hap, if_pos ⟨ex, ey, ew⟩, Int.toNat_natCast]
  unfold ruQ
  have := ru_skip (ro := ro) (re := re) (ms := ms) (r := r) (P := P) P.length 0 m (Nat.zero_le _) (by omega) (fun j _ h => hs j h) (by omega)
  rw [show P.length - (0 : Int).toNat = P.length from rfl]
  rw [show ((0 : Nat) : Int) = (0 : Int) from rfl] at this
  rw [this, show P.length - (m - 0) = 0 + 1 by omega, ruF20, if_pos (by omega), Int.toNat_natCast, hon]
  rfl

end Go.Proofs.YtchdoakoelfenaaGreat
