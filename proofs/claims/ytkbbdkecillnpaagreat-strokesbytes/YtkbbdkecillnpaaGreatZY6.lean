/-
  Drawings drawn by a pen; drawings baked; drawings within drawings (plain mathematics; 'ro', 're': what a slot is rounded to, and the error of that).
  Outlines: what the laws ask (plain mathematics).
-/
import Derived.Test.YtkbbdkecillnpaaGreatZY5
namespace Go.Proofs.YtkbbdkecillnpaaGreat
set_option linter.unusedSimpArgs false
set_option linter.unusedVariables false

theorem getD_memS {α : Type} {d : List α} {e : α} {k : Nat} (hk : k < d.length) : d.getD k e ∈ d := by
  rw [List.getD_eq_getElem?_getD, List.getElem?_eq_getElem hk]
  exact List.getElem_mem hk
theorem getD_mapS {α β : Type} (f : α → β) {d : List α} {e : α} {e' : β} {k : Nat} (hk : k < d.length) : (d.map f).getD k e' = f (d.getD k e) := by
  rw [List.getD_eq_getElem?_getD, List.getElem?_map, List.getElem?_eq_getElem hk, List.getD_eq_getElem?_getD, List.getElem?_eq_getElem hk]
  rfl
/-- A pen: where it is, how many steps were done, what was drawn, the first error. -/
structure Pe where
  x : Int
  y : Int
  st : Nat
  out : List (List Pn)
  er : Int
def Pe.new : Pe := ⟨0, 0, 0, [], 0⟩
/-- How slots are read: what each is rounded to, and the error. -/
structure Rd18 where
  ro : Int → Int → Int
  re : Int → Int → Int
/-- The first error of slots. -/
def nuE (R : Rd18) : List (Int × Int) → Int
  | [] => 0
  | a :: l => if R.re a.1 a.2 = 0 then nuE R l else R.re a.1 a.2
def nuL (R : Rd18) (l : List (Int × Int)) : List Int := l.map (fun a => R.ro a.1 a.2)
theorem nuE_append (R : Rd18) (l m : List (Int × Int)) : nuE R (l ++ m) = if nuE R l = 0 then nuE R m else nuE R l := by
  induction l with
  | nil => rw [List.nil_append, nuE, if_pos rfl]
  | cons a l ih =>
    rw [List.cons_append, nuE, nuE]
    by_cases h : R.re a.1 a.2 = 0
    · rw [if_pos h, if_pos h, ih]
    · rw [if_neg h, if_neg h, if_neg h]
theorem nuE_take {R : Rd18} {l : List (Int × Int)} {k : Nat} (hk : k < l.length) : nuE R (l.take (k + 1)) = if nuE R (l.take k) = 0 then R.re (l.getD k (0, 0)).1 (l.getD k (0, 0)).2 else nuE R (l.take k) := by
  have e : l.take (k + 1) = l.take k ++ [l.getD k (0, 0)] := by
    rw [List.take_add_one, List.getElem?_eq_getElem hk]
    simp [List.getD, hk]
  rw [e, nuE_append]
  congr 1
  rw [nuE, nuE]
  split
  · next h => exact h.symm
  · rfl
theorem nuE_zero {R : Rd18} : ∀ {l : List (Int × Int)}, nuE R l = 0 ↔ ∀ a ∈ l, R.re a.1 a.2 = 0 := by
  intro l
  induction l with
  | nil => exact ⟨fun _ a ha => (by cases ha), fun _ => rfl⟩
  | cons a l ih =>
    rw [nuE]
    constructor
    · intro h b hb
      by_cases ha : R.re a.1 a.2 = 0
      · rw [if_pos ha] at h
        rcases List.mem_cons.1 hb with rfl | hb
        · exact ha
        · exact ih.1 h b hb
      · rw [if_neg ha] at h
        exact absurd h ha
    · intro h
      rw [if_pos (h a (by simp))]
      exact ih.2 (fun b hb => h b (by simp [hb]))
/-- A stop once an error: the first error of the whole stays. -/
theorem nuE_stop {R : Rd18} {l : List (Int × Int)} {k : Nat} (hk : k ≤ l.length) (h : nuE R (l.take k) ≠ 0) : nuE R l = nuE R (l.take k) := by
  have e : l = l.take k ++ l.drop k := (List.take_append_drop k l).symm
  have := nuE_append R (l.take k) (l.drop k)
  rw [← e, if_neg h] at this
  exact this
/-- A point so far on, at the end of the last contour. -/
def putL (o : List (List Pn)) (q : Pn) : List (List Pn) := o.set (o.length - 1) (o.getD (o.length - 1) [] ++ [q])
def toP (p : Pe) (dx dy : Int) (on : Bool) : Pe := ⟨p.x + dx, p.y + dy, p.st, putL p.out ⟨p.x + dx, p.y + dy, on⟩, p.er⟩
theorem putL_len (o : List (List Pn)) (q : Pn) : (putL o q).length = o.length := by unfold putL; rw [List.length_set]
theorem putL_snoc (o : List (List Pn)) (c : List Pn) (q : Pn) : putL (o ++ [c]) q = o ++ [c ++ [q]] := by
  unfold putL
  have e : (o ++ [c]).length - 1 = o.length := by rw [List.length_append, List.length_singleton]; omega
  rw [e, List.set_append_right _ _ (Nat.le_refl _)]
  simp
/-- What a step draws, once its numbers are there (a Draw aside). -/
def mvPe (d : Int) (a : List Int) (p : Pe) : Pe :=
  if d = 3 then toP (toP (toP p (a.getD 0 0) (a.getD 1 0) false) (a.getD 2 0) (a.getD 3 0) false) (a.getD 4 0) (a.getD 5 0) true
  else toP p (a.getD 0 0) (a.getD 1 0) true
def goP (d : Int) (p : Pe) : Pe := if d = 1 then { p with out := p.out ++ [[]] } else p
/-- A step, with 'n' Draws left; 'sub' draws what is drawn within. -/
def drS (R : Rd18) (l : List (List Sp)) (n : Nat) (sub : List Sp → Pe → Pe) (x : Sp) (p : Pe) : Pe :=
  if 400 ≤ p.st then { p with er := 3 }
  else if nuE R x.ar ≠ 0 then { p with st := p.st + 1, er := nuE R x.ar }
  else if x.d = 4 then (if n = 0 then { p with st := p.st + 1, er := 6 } else sub (l.getD ((nuL R x.ar).getD 0 0).toNat []) { p with st := p.st + 1 })
  else if (goP x.d { p with st := p.st + 1 }).out = [] then { goP x.d { p with st := p.st + 1 } with er := 1 }
  else mvPe x.d (nuL R x.ar) (goP x.d { p with st := p.st + 1 })
/-- Steps, one behind the other, until an error. -/
def drA (f : Sp → Pe → Pe) : List Sp → Pe → Pe
  | [], p => p
  | x :: d, p => if p.er = 0 then drA f d (f x p) else p
def drN (R : Rd18) (l : List (List Sp)) : Nat → List Sp → Pe → Pe
  | 0, d, p => drA (drS R l 0 (fun _ p => p)) d p
  | n + 1, d, p => drA (drS R l (n + 1) (drN R l n)) d p
theorem drN_zero (R : Rd18) (l : List (List Sp)) (d : List Sp) (p : Pe) : drN R l 0 d p = drA (drS R l 0 (fun _ p => p)) d p := rfl
theorem drN_succ (R : Rd18) (l : List (List Sp)) (n : Nat) (d : List Sp) (p : Pe) : drN R l (n + 1) d p = drA (drS R l (n + 1) (drN R l n)) d p := rfl
theorem drA_stop (f : Sp → Pe → Pe) (d : List Sp) {p : Pe} (h : p.er ≠ 0) : drA f d p = p := by
  cases d with
  | nil => rfl
  | cons x d => rw [drA, if_neg h]
theorem drA_go (f : Sp → Pe → Pe) (x : Sp) (d : List Sp) {p : Pe} (h : p.er = 0) : drA f (x :: d) p = drA f d (f x p) := by rw [drA, if_pos h]
theorem drA_at (f : Sp → Pe → Pe) {d : List Sp} {k : Nat} (hk : k < d.length) {p : Pe} (h : p.er = 0) : drA f (d.drop k) p = drA f (d.drop (k + 1)) (f (d.getD k Sp.none) p) := by
  have e : d.drop k = d.getD k Sp.none :: d.drop (k + 1) := by
    rw [List.drop_eq_getElem_cons hk, List.getD_eq_getElem?_getD, List.getElem?_eq_getElem hk]
    rfl
  rw [e, drA_go f _ _ h]
theorem drA_end (f : Sp → Pe → Pe) {d : List Sp} {k : Nat} (hk : d.length ≤ k) (p : Pe) : drA f (d.drop k) p = p := by
  rw [List.drop_eq_nil_of_le hk]
  rfl
/-- What At answers: whether drawings are formed, the number, and the pen behind it all. -/
def atDp (R : Rd18) (l : List (List Sp)) (n : Int) : Pe := drN R l 10 (l.getD n.toNat []) Pe.new
def atDE (fi : Int → Int → Bool) (R : Rd18) (l : List (List Sp)) (n : Int) : Int :=
  if foD fi l then (if 0 ≤ n ∧ n < (l.length : Int) then (atDp R l n).er else 5) else 1
def atDL (fi : Int → Int → Bool) (R : Rd18) (l : List (List Sp)) (n : Int) : List (List Pn) :=
  if atDE fi R l n = 0 then (atDp R l n).out else []

/-- Baked. -/
def baP (R : Rd18) (x : Sp) : Sp := ⟨x.d, x.ar.map (fun a => (R.ro a.1 a.2, -1))⟩
def baD (R : Rd18) (l : List (List Sp)) : List (List Sp) := l.map (fun d => d.map (baP R))
/-- The first error of drawings. -/
def erD (R : Rd18) (d : List Sp) : Int := nuE R (d.map Sp.ar).flatten
def erL (R : Rd18) (l : List (List Sp)) : Int := nuE R (l.map (fun d => (d.map Sp.ar).flatten)).flatten
def baE (fi : Int → Int → Bool) (R : Rd18) (l : List (List Sp)) : Int := if foD fi l then erL R l else 1
def baL (fi : Int → Int → Bool) (R : Rd18) (l : List (List Sp)) : List (List Sp) := if baE fi R l = 0 then baD R l else []
theorem erL_zero {R : Rd18} {l : List (List Sp)} (h : erL R l = 0) : ∀ d ∈ l, ∀ x ∈ d, ∀ a ∈ x.ar, R.re a.1 a.2 = 0 := by
  intro d hd x hx a ha
  refine nuE_zero.1 h a ?_
  exact List.mem_flatten.2 ⟨_, List.mem_map.2 ⟨d, hd, rfl⟩, List.mem_flatten.2 ⟨_, List.mem_map.2 ⟨x, hx, rfl⟩, ha⟩⟩
/-- Reading without a store. -/
def R0 : Rd18 := ⟨fun b _ => b, fun _ _ => 0⟩
theorem nuE_R0 (l : List (Int × Int)) : nuE R0 l = 0 := nuE_zero.2 (fun _ _ => rfl)
theorem nuL_ba (R : Rd18) (x : Sp) : nuL R0 (baP R x).ar = nuL R x.ar := by
  unfold nuL baP
  dsimp only
  rw [List.map_map]
  rfl
/-- How slots are read that are 'None' alone: as R0 does. -/
def Same0 (R : Rd18) : Prop := ∀ b, -32768 ≤ b → b ≤ 32767 → R.ro b (-1) = b ∧ R.re b (-1) = 0
theorem drS_ba {R : Rd18} {l : List (List Sp)} {n : Nat} {f g : List Sp → Pe → Pe} {x : Sp} (hx : nuE R x.ar = 0) (hd : x.d = 4 → n ≠ 0 → ∀ p, f (l.getD ((nuL R x.ar).getD 0 0).toNat []) p = g ((baD R l).getD ((nuL R x.ar).getD 0 0).toNat []) p) (p : Pe) : drS R l n f x p = drS R0 (baD R l) n g (baP R x) p := by
  have e1 : (baP R x).d = x.d := rfl
  unfold drS
  rw [nuE_R0, nuL_ba, e1, hx]
  by_cases h4 : x.d = 4
  · by_cases hn : n = 0
    · simp [h4, hn]
    · simp only [h4, hn, if_true, if_false, ne_eq, not_true, hd h4 hn]
  · simp [h4]
theorem drA_ba {R : Rd18} {f g : Sp → Pe → Pe} : ∀ {d : List Sp}, (∀ x ∈ d, ∀ p, f x p = g (baP R x) p) → ∀ p, drA f d p = drA g (d.map (baP R)) p := by
  intro d
  induction d with
  | nil => intro _ p; rfl
  | cons x d ih =>
    intro h p
    rw [List.map_cons, drA, drA]
    by_cases he : p.er = 0
    · rw [if_pos he, if_pos he, h x (by simp), ih (fun y hy => h y (by simp [hy]))]
    · rw [if_neg he, if_neg he]
theorem getD_ba {R : Rd18} (l : List (List Sp)) (k : Nat) : (baD R l).getD k [] = (l.getD k []).map (baP R) := by
  unfold baD
  rw [List.getD_eq_getElem?_getD, List.getD_eq_getElem?_getD, List.getElem?_map]
  cases l[k]? <;> rfl
theorem mem_getD {l : List (List Sp)} {k : Nat} {x : Sp} (h : x ∈ l.getD k []) : l.getD k [] ∈ l := by
  by_cases hk : k < l.length
  · rw [List.getD_eq_getElem?_getD, List.getElem?_eq_getElem hk]
    exact List.getElem_mem hk
  · rw [List.getD_eq_getElem?_getD, List.getElem?_eq_none (by omega)] at h
    cases h
/-- What is baked is drawn as it was. -/
theorem drN_ba {R : Rd18} {l : List (List Sp)} (h : erL R l = 0) : ∀ (n k : Nat) (p : Pe), drN R l n (l.getD k []) p = drN R0 (baD R l) n ((baD R l).getD k []) p := by
  intro n
  have key : ∀ (k : Nat) (x : Sp), x ∈ l.getD k [] → nuE R x.ar = 0 := fun k x hx => nuE_zero.2 (erL_zero h _ (mem_getD hx) x hx)
  induction n with
  | zero =>
    intro k p
    rw [drN_zero, drN_zero, getD_ba]
    exact drA_ba (fun x hx p => drS_ba (key k x hx) (fun _ h0 => absurd rfl h0) p) p
  | succ n ih =>
    intro k p
    rw [drN_succ, drN_succ, getD_ba]
    exact drA_ba (fun x hx p => drS_ba (key k x hx) (fun _ _ p => ih _ p) p) p
theorem getD_arB (R : Rd18) (x : Sp) {k : Nat} (hk : k < x.ar.length) : (baP R x).ar.getD k (0, 0) = (R.ro (x.ar.getD k (0, 0)).1 (x.ar.getD k (0, 0)).2, -1) := by
  unfold baP
  dsimp only
  rw [List.getD_eq_getElem?_getD, List.getElem?_map, List.getElem?_eq_getElem hk, List.getD_eq_getElem?_getD, List.getElem?_eq_getElem hk]
  rfl
/-- What is baked is formed without a store. -/
theorem foD_ba {fi f0 : Int → Int → Bool} {R : Rd18} {l : List (List Sp)} (hf : foD fi l = true) (h : erL R l = 0)
    (hro : ∀ b r, fi b r = true → R.re b r = 0 → f0 (R.ro b r) (-1) = true) (hno : ∀ b, fi b (-1) = true → R.ro b (-1) = b) : foD f0 (baD R l) = true := by
  obtain ⟨h1, h2⟩ := foD_iff.1 hf
  have hl : (baD R l).length = l.length := by unfold baD; rw [List.length_map]
  refine foD_iff.2 ⟨by omega, fun i hi => ?_⟩
  rw [hl] at hi ⊢
  obtain ⟨h3, h4⟩ := drF_iff.1 (h2 i hi)
  rw [getD_ba]
  refine drF_iff.2 ⟨by rw [List.length_map]; exact h3, fun k hk => ?_⟩
  rw [List.length_map] at hk
  obtain ⟨s1, s2, s3⟩ := spF_iff.1 (h4 k hk)
  have e : ((l.getD i []).map (baP R)).getD k Sp.none = baP R ((l.getD i []).getD k Sp.none) := getD_mapS (baP R) hk
  have hmem : (l.getD i []).getD k Sp.none ∈ l.getD i [] := getD_memS hk
  rw [e]
  generalize (l.getD i []).getD k Sp.none = x at *
  have hre : ∀ j, j < x.ar.length → R.re (x.ar.getD j (0, 0)).1 (x.ar.getD j (0, 0)).2 = 0 := fun j hj =>
    erL_zero h _ (mem_getD hmem) x hmem _ (by rw [List.getD_eq_getElem?_getD, List.getElem?_eq_getElem hj]; exact List.getElem_mem hj)
  have hal : (baP R x).ar.length = x.ar.length := by unfold baP; rw [List.length_map]
  refine spF_iff.2 ⟨by rw [hal]; exact s1, fun j hj => ?_, fun hd => ?_⟩
  · rw [hal] at hj
    rw [getD_arB R x hj]
    exact hro _ _ (s2 j hj) (hre j hj)
  · have hd' : x.d = 4 := hd
    have hlen : 0 < x.ar.length := by
      rw [hd'] at s1
      have : arD 4 = 1 := rfl
      omega
    obtain ⟨t1, t2, t3⟩ := s3 hd'
    have t4 := s2 0 hlen
    rw [getD_arB R x hlen]
    rw [t1] at t4
    rw [t1, hno _ t4]
    exact ⟨rfl, t2, t3⟩

/-- Two ways of reading slots that agree on all that are there. -/
theorem nuE_congr {R T : Rd18} : ∀ {l : List (Int × Int)}, (∀ a ∈ l, R.ro a.1 a.2 = T.ro a.1 a.2 ∧ R.re a.1 a.2 = T.re a.1 a.2) → nuE R l = nuE T l ∧ nuL R l = nuL T l := by
  intro l
  induction l with
  | nil => intro _; exact ⟨rfl, rfl⟩
  | cons a l ih =>
    intro h
    obtain ⟨h1, h2⟩ := ih (fun b hb => h b (by simp [hb]))
    obtain ⟨h3, h4⟩ := h a (by simp)
    constructor
    · rw [nuE, nuE, h1, h4]
    · unfold nuL at h2 ⊢
      rw [List.map_cons, List.map_cons, h2, h3]
theorem drA_congr {f g : Sp → Pe → Pe} : ∀ {d : List Sp}, (∀ x ∈ d, ∀ p, f x p = g x p) → ∀ p, drA f d p = drA g d p := by
  intro d
  induction d with
  | nil => intro _ p; rfl
  | cons x d ih =>
    intro h p
    rw [drA, drA, h x (by simp), ih (fun y hy => h y (by simp [hy]))]
theorem drN_congr {R T : Rd18} {l : List (List Sp)} (h : ∀ d ∈ l, ∀ x ∈ d, ∀ a ∈ x.ar, R.ro a.1 a.2 = T.ro a.1 a.2 ∧ R.re a.1 a.2 = T.re a.1 a.2) : ∀ (n k : Nat) (p : Pe), drN R l n (l.getD k []) p = drN T l n (l.getD k []) p := by
  intro n
  have key : ∀ (k : Nat) (x : Sp), x ∈ l.getD k [] → nuE R x.ar = nuE T x.ar ∧ nuL R x.ar = nuL T x.ar := fun k x hx => nuE_congr (h _ (mem_getD hx) x hx)
  induction n with
  | zero =>
    intro k p
    rw [drN_zero, drN_zero]
    refine drA_congr (fun x hx p => ?_) p
    obtain ⟨h1, h2⟩ := key k x hx
    unfold drS
    rw [h1, h2]
  | succ n ih =>
    intro k p
    rw [drN_succ, drN_succ]
    refine drA_congr (fun x hx p => ?_) p
    obtain ⟨h1, h2⟩ := key k x hx
    unfold drS
    rw [h1, h2, ih]
theorem erL_congr {R T : Rd18} {l : List (List Sp)} (h : ∀ d ∈ l, ∀ x ∈ d, ∀ a ∈ x.ar, R.ro a.1 a.2 = T.ro a.1 a.2 ∧ R.re a.1 a.2 = T.re a.1 a.2) : erL R l = erL T l := by
  refine (nuE_congr (fun a ha => ?_)).1
  obtain ⟨m, hm, ha⟩ := List.mem_flatten.1 ha
  obtain ⟨d, hd, rfl⟩ := List.mem_map.1 hm
  obtain ⟨q, hq, ha⟩ := List.mem_flatten.1 ha
  obtain ⟨x, hx, rfl⟩ := List.mem_map.1 hq
  exact h d hd x hx a ha

/-- Drawings within drawings, one behind the other. -/
def neS (i : Int) : List Sp := [⟨4, [(i, -1)]⟩]
def neL (k : Nat) : List (List Sp) := (List.range k).map (fun i : Nat => neS ((i : Int) + 1))
def neE (lp : Bool) : List Sp := if lp then neS 0 else [⟨1, [(3, -1), (4, -1)]⟩]
def neA (k : Nat) (lp : Bool) : List (List Sp) := neL k ++ [neE lp]
theorem neL_succ (k : Nat) : neL (k + 1) = neL k ++ [neS ((k : Int) + 1)] := by
  unfold neL
  rw [List.range_succ, List.map_append]
  rfl
theorem neL_len (k : Nat) : (neL k).length = k := by unfold neL; rw [List.length_map, List.length_range]
theorem neA_len (k : Nat) (lp : Bool) : (neA k lp).length = k + 1 := by unfold neA; rw [List.length_append, neL_len]; rfl
theorem neA_at : ∀ k, k < 16 → ∀ lp : Bool, (lp || decide (10 < k)) = true → (atDp R0 (neA k lp) 0).er = 6 := by decide +kernel
theorem neA_ok : ∀ k, k < 16 → ∀ lp : Bool, (lp || decide (10 < k)) = false → (atDp R0 (neA k lp) 0).er = 0 ∧ (atDp R0 (neA k lp) 0).out.length = 1 ∧ ((atDp R0 (neA k lp) 0).out.getD 0 []).length = 1 ∧ (((atDp R0 (neA k lp) 0).out.getD 0 []).getD 0 Pn.none).x = 3 := by decide +kernel
/-- All slots there are None, and their Bases are fields. -/
theorem neA_sl {k : Nat} (hk : k < 16) {lp : Bool} : ∀ d ∈ neA k lp, ∀ x ∈ d, ∀ a ∈ x.ar, a.2 = -1 ∧ 0 ≤ a.1 ∧ a.1 ≤ 16 := by
  intro d hd x hx a ha
  unfold neA at hd
  rcases List.mem_append.1 hd with hd | hd
  · unfold neL at hd
    obtain ⟨i, hi, rfl⟩ := List.mem_map.1 hd
    have hi2 := List.mem_range.1 hi
    unfold neS at hx
    rw [List.mem_singleton.1 hx] at ha
    rw [List.mem_singleton.1 ha]
    dsimp only
    omega
  · rw [List.mem_singleton.1 hd] at hx
    unfold neE neS at hx
    cases lp with
    | true =>
      rw [if_pos rfl] at hx
      rw [List.mem_singleton.1 hx] at ha
      rw [List.mem_singleton.1 ha]
      exact ⟨rfl, by omega, by omega⟩
    | false =>
      rw [if_neg (by decide)] at hx
      rw [List.mem_singleton.1 hx] at ha
      rcases List.mem_cons.1 ha with rfl | ha
      · exact ⟨rfl, by omega, by omega⟩
      · rw [List.mem_singleton.1 ha]
        exact ⟨rfl, by omega, by omega⟩
theorem neA_fo {f0 : Int → Int → Bool} (hf0 : ∀ b, 0 ≤ b → b ≤ 16 → f0 b (-1) = true) {k : Nat} (hk : k < 16) (lp : Bool) : foD f0 (neA k lp) = true := by
  have hsl := neA_sl hk (lp := lp)
  refine foD_iff.2 ⟨by rw [neA_len]; omega, fun i hi => ?_⟩
  have hmem : (neA k lp).getD i [] ∈ neA k lp := getD_memS hi
  have hshape : (∃ b : Int, (neA k lp).getD i [] = neS b ∧ 0 ≤ b ∧ b < ((neA k lp).length : Int)) ∨ (neA k lp).getD i [] = [⟨1, [(3, -1), (4, -1)]⟩] := by
    generalize (neA k lp).getD i [] = d at hmem
    unfold neA at hmem
    rw [neA_len]
    rcases List.mem_append.1 hmem with hd | hd
    · unfold neL at hd
      obtain ⟨j, hj, rfl⟩ := List.mem_map.1 hd
      have := List.mem_range.1 hj
      exact .inl ⟨_, rfl, by omega, by omega⟩
    · rw [List.mem_singleton.1 hd]
      cases lp with
      | true => exact .inl ⟨0, rfl, by omega, by omega⟩
      | false => exact .inr rfl
  rcases hshape with ⟨b, e, b1, b2⟩ | e
  · have hs := hsl _ hmem
    rw [e] at hs ⊢
    obtain ⟨_, h1, h2⟩ := hs ⟨4, [(b, -1)]⟩ (by unfold neS; simp) (b, -1) (by simp)
    refine drF_iff.2 ⟨by unfold neS; simp, fun q hq => ?_⟩
    obtain rfl : q = 0 := by unfold neS at hq; simp at hq; exact hq
    refine spF_iff.2 ⟨rfl, fun j hj => ?_, fun _ => ⟨rfl, b1, b2⟩⟩
    obtain rfl : j = 0 := by
      have : j < 1 := hj
      omega
    exact hf0 b b1 h2
  · rw [e]
    refine drF_iff.2 ⟨by simp, fun q hq => ?_⟩
    obtain rfl : q = 0 := by simp at hq; exact hq
    refine spF_iff.2 ⟨rfl, fun j hj => ?_, fun h => ?_⟩
    · have hj2 : j < 2 := hj
      rcases Nat.lt_or_ge j 1 with h1 | h1
      · obtain rfl : j = 0 := by omega
        exact hf0 3 (by omega) (by omega)
      · obtain rfl : j = 1 := by omega
        exact hf0 4 (by omega) (by omega)
    · exact absurd h (by decide)

end Go.Proofs.YtkbbdkecillnpaaGreat

namespace Go.Proofs.YtkbbdkecillnpaaGreat
set_option linter.unusedSimpArgs false
set_option linter.unusedVariables false

/-- What bytes are read as. -/
def rdOk (b : List Nat) : Bool := decide (wrOE (candO b) = 0) && decide (wrOB (candO b) = b)
def rdOL (b : List Nat) : Ol := if rdOk b then candO b else Ol.none
def rdOE (b : List Nat) : Int := if rdOk b then 0 else 2
theorem rdOk_iff {b : List Nat} : rdOk b = true ↔ wrOE (candO b) = 0 ∧ wrOB (candO b) = b := by
  unfold rdOk
  rw [Bool.and_eq_true, decide_eq_true_iff, decide_eq_true_iff]
theorem rdO_back {o : Ol} (h : wrOE o = 0) : rdOk (wrOB o) = true ∧ candO (wrOB o) = o := by
  have e := cand_back h []
  rw [List.append_nil] at e
  exact ⟨rdOk_iff.2 (by rw [e]; exact ⟨h, rfl⟩), e⟩
theorem rdO_of {b : List Nat} {o : Ol} (h : wrOE o = 0) (hb : wrOB o = b) : rdOk b = true ∧ candO b = o := by
  rw [← hb]
  exact rdO_back h
/-- No beginning of an outline's bytes is an outline's, and none with bytes behind it. -/
theorem rdO_more {o : Ol} (h : wrOE o = 0) {Z : List Nat} (hZ : Z ≠ []) : rdOk (wrOB o ++ Z) = false := by
  rw [Bool.eq_false_iff]
  intro e
  obtain ⟨h1, h2⟩ := rdOk_iff.1 e
  rw [cand_back h Z] at h2
  have := congrArg List.length h2
  rw [List.length_append] at this
  exact hZ (List.length_eq_zero_iff.1 (by omega))
theorem rdO_cut {o : Ol} (h : wrOE o = 0) {j : Nat} (hj : j < (wrOB o).length) : rdOk ((wrOB o).take j) = false := by
  rw [Bool.eq_false_iff]
  intro e
  obtain ⟨h1, h2⟩ := rdOk_iff.1 e
  have h3 := rdO_more h1 (Z := (wrOB o).drop j) (by intro e; have := congrArg List.length e; rw [List.length_drop] at this; simp at this; omega)
  rw [h2, List.take_append_drop, (rdO_back h).1] at h3
  cases h3
theorem wrOE_cases (o : Ol) : (wrOE o = 0 ∧ foB o = true) ∨ (wrOE o = 1 ∧ foB o = false ∧ wrOB o = []) ∨ (wrOE o = 4 ∧ foB o = true ∧ o.ps.length = 0 ∧ diB o.cs.flatten = false ∧ wrOB o = []) := by
  unfold wrOE wrOB
  cases h1 : foB o with
  | false => exact .inr (.inl ⟨rfl, rfl, rfl⟩)
  | true =>
    by_cases h2 : o.ps.length = 0
    · cases h3 : diB o.cs.flatten with
      | true => exact .inl ⟨by simp [h2], rfl⟩
      | false => exact .inr (.inr ⟨by simp [h2], rfl, h2, rfl, by simp [h2]⟩)
    · exact .inl ⟨by simp [h2], rfl⟩
/-- A step that is no field lies between two points. -/
theorem step_out {o : Ol} (hf : foB o = true) (hd : diB o.cs.flatten = false) : ∃ i, 0 < i ∧ i < o.cs.flatten.length ∧
    ¬ ((-32768 ≤ (o.cs.flatten.getD i Pn.none).x - (o.cs.flatten.getD (i - 1) Pn.none).x ∧ (o.cs.flatten.getD i Pn.none).x - (o.cs.flatten.getD (i - 1) Pn.none).x ≤ 32767) ∧ (-32768 ≤ (o.cs.flatten.getD i Pn.none).y - (o.cs.flatten.getD (i - 1) Pn.none).y ∧ (o.cs.flatten.getD i Pn.none).y - (o.cs.flatten.getD (i - 1) Pn.none).y ≤ 32767)) := by
  have hfo := (foB_iff.1 hf).2.2.2.2.2.1
  generalize o.cs.flatten = l at *
  have h1 : ¬ ∀ t ∈ difs 0 0 l, (-32768 ≤ t.1 ∧ t.1 ≤ 32767) ∧ (-32768 ≤ t.2.1 ∧ t.2.1 ≤ 32767) := by
    rw [← diB_iff, hd]
    decide
  rcases Classical.em (∃ i, 0 < i ∧ i < l.length ∧ ¬ ((-32768 ≤ (l.getD i Pn.none).x - (l.getD (i - 1) Pn.none).x ∧ (l.getD i Pn.none).x - (l.getD (i - 1) Pn.none).x ≤ 32767) ∧ (-32768 ≤ (l.getD i Pn.none).y - (l.getD (i - 1) Pn.none).y ∧ (l.getD i Pn.none).y - (l.getD (i - 1) Pn.none).y ≤ 32767))) with h | h
  · exact h
  · refine absurd (fun t ht => ?_) h1
    obtain ⟨i, hi, e⟩ := List.getElem_of_mem ht
    rw [difs_len] at hi
    have hg := difs_get l 0 0 i hi
    rw [List.getD_eq_getElem?_getD, List.getElem?_eq_getElem (by rw [difs_len]; exact hi), Option.getD_some, e] at hg
    rw [hg]
    by_cases h0 : i = 0
    · subst h0
      have := hfo (l.getD 0 Pn.none) (by rw [List.getD_eq_getElem?_getD, List.getElem?_eq_getElem hi]; exact List.getElem_mem hi)
      simpa using this
    · rcases Classical.em ((-32768 ≤ (l.getD i Pn.none).x - (l.getD (i - 1) Pn.none).x ∧ (l.getD i Pn.none).x - (l.getD (i - 1) Pn.none).x ≤ 32767) ∧ (-32768 ≤ (l.getD i Pn.none).y - (l.getD (i - 1) Pn.none).y ∧ (l.getD i Pn.none).y - (l.getD (i - 1) Pn.none).y ≤ 32767)) with h2 | h2
      · simpa [h0] using h2
      · exact absurd ⟨i, by omega, hi, h2⟩ h
/-- All bytes are bytes, and there are few. -/
theorem byt_rl : ∀ (k : Nat) (l : List Int), l.length = k → (∀ x ∈ l, 0 ≤ x ∧ x < 64) → Byt (rl l) ∧ (rl l).length ≤ 2 * l.length := by
  intro k
  induction k using Nat.strongRecOn with
  | ind k ih =>
    intro l hk hl
    by_cases h0 : l = []
    · subst h0; exact ⟨Byt.nil, Nat.le_refl _⟩
    have hpos : 0 < l.length := List.length_pos_iff.2 h0
    have hx := hl (l.getD 0 0) (by rw [List.getD_eq_getElem?_getD, List.getElem?_eq_getElem hpos]; exact List.getElem_mem hpos)
    have r1 := rn_pos (c := Int.toNat) (M := 256) (by omega) h0
    obtain ⟨r2, r3⟩ := rn_le (c := Int.toNat) (M := 256) l
    obtain ⟨i1, i2⟩ := ih (l.drop (rn Int.toNat 256 l)).length (by rw [List.length_drop]; omega) _ rfl (fun x hx => hl x (List.mem_of_mem_drop hx))
    rw [List.length_drop] at i2
    rw [rl_cons h0]
    split
    · refine ⟨Byt.append (fun y hy => ?_) i1, by rw [List.length_append, List.length_singleton]; omega⟩
      rw [List.mem_singleton.1 hy]
      omega
    · refine ⟨Byt.append (fun y hy => ?_) i1, by rw [List.length_append]; simp only [List.length_cons, List.length_nil]; omega⟩
      rcases List.mem_cons.1 hy with hy | hy
      · rw [hy]; omega
      · rw [List.mem_singleton.1 hy]; omega
theorem flL_lim (l : List Pn) : ∀ x ∈ flL l, 0 ≤ x ∧ x < 64 := by
  intro x hx
  unfold flL at hx
  obtain ⟨t, _, rfl⟩ := List.mem_map.1 hx
  have := (flg_bits t).1
  omega
theorem flL_len (l : List Pn) : (flL l).length = l.length := by unfold flL; rw [List.length_map, difs_len]
theorem flat2 {α : Type} {f : α → List Nat} (h : ∀ x, (f x).length ≤ 2) (m : List α) : (m.flatMap f).length ≤ 2 * m.length := by
  induction m with
  | nil => simp
  | cons x t ih => have := h x; rw [List.flatMap_cons, List.length_append, List.length_cons]; omega
theorem byt_flat {α : Type} {f : α → List Nat} (h : ∀ x, Byt (f x)) (m : List α) : Byt (m.flatMap f) := by
  intro y hy
  obtain ⟨x, _, hx⟩ := List.mem_flatMap.1 hy
  exact h x y hx
theorem byt_coB (cs : List (List Pn)) : Byt (coB cs) ∧ (coB cs).length ≤ 2 + 2 * cs.length + 6 * cs.flatten.length := by
  unfold coB
  obtain ⟨r1, r2⟩ := byt_rl _ (flL cs.flatten) rfl (flL_lim _)
  rw [flL_len] at r2
  have x2 := flat2 (f := fun t : Int × Int × Bool => axB t.1) (fun t => axB_len _) (difs 0 0 cs.flatten)
  have y2 := flat2 (f := fun t : Int × Int × Bool => axB t.2.1) (fun t => axB_len _) (difs 0 0 cs.flatten)
  have e2 := flat2 (f := be2) (fun t => by simp [be2]) (endF 0 cs)
  rw [difs_len] at x2 y2
  rw [endF_len] at e2
  refine ⟨(byt_be2 _).append ((byt_flat byt_be2 _).append (r1.append ((byt_flat (fun t => byt_axB _) _).append (byt_flat (fun t => byt_axB _) _)))), ?_⟩
  simp only [List.length_append]
  have : (be2 (cs.length : Int)).length = 2 := rfl
  omega
theorem byt_paB (ps : List Pa) : Byt (paB ps) ∧ (paB ps).length = 4 + 6 * ps.length := by
  unfold paB
  refine ⟨Byt.append (fun y hy => by simp at hy; omega) ((byt_be2 _).append (byt_flat (fun p => (byt_be2 _).append ((byt_be2 _).append (byt_be2 _))) _)), ?_⟩
  have : ∀ l : List Pa, (l.flatMap paE).length = 6 * l.length := by
    intro l
    induction l with
    | nil => rfl
    | cons p t ih =>
      have e : (paE p).length = 6 := rfl
      rw [List.flatMap_cons, List.length_append, ih, e, List.length_cons]
      omega
  simp only [List.length_append, this]
  have : (be2 (ps.length : Int)).length = 2 := rfl
  simp only [List.length_cons, List.length_nil]
  omega
theorem byt_wrOB (o : Ol) : Byt (wrOB o) ∧ (wrOB o).length ≤ 600 := by
  unfold wrOB
  split
  · rename_i h
    obtain ⟨f1, f2, f3, f4, f5, f6, f7⟩ := foB_iff.1 h
    split
    · split
      · exact ⟨(byt_coB _).1, by have := (byt_coB o.cs).2; omega⟩
      · exact ⟨Byt.nil, Nat.zero_le _⟩
    · exact ⟨(byt_paB _).1, by have := (byt_paB o.ps).2; omega⟩
  · exact ⟨Byt.nil, Nat.zero_le _⟩
theorem wrOB_two {o : Ol} (h : wrOE o = 0) : 2 ≤ (wrOB o).length := by
  by_cases h0 : o.ps.length = 0
  · rw [wrOB_co h h0]
    unfold coB
    rw [List.length_append]
    have : (be2 (o.cs.length : Int)).length = 2 := rfl
    omega
  · rw [wrOB_pa h h0, (byt_paB _).2]
    omega
/-- One flag ahead of others. -/
theorem rn_one {x y : Int} {t : List Int} (h : x.toNat ≠ y.toNat) : rn Int.toNat 256 (x :: y :: t) = 1 := by
  rw [rn, List.takeWhile_cons, if_neg (by simpa using fun e => h e.symm)]
  rfl
theorem rn_like {x y : Int} {t : List Int} (h : x.toNat = y.toNat) (hl : (x :: y :: t).length ≤ 256) : rn Int.toNat 256 (x :: y :: t) = 1 + rn Int.toNat 256 (y :: t) := by
  have h1 := takeWhile_le (fun z : Int => z.toNat == y.toNat) t
  simp only [List.length_cons] at hl
  rw [rn, rn, List.takeWhile_cons, if_pos (by simp [h]), List.length_cons, h]
  omega
theorem rl_ahead {x : Int} {F : List Int} (hl : (x :: F).length ≤ 256) : (rl F).length ≤ (rl (x :: F)).length ∧ (rl (x :: F)).length ≤ (rl F).length + 1 := by
  cases F with
  | nil =>
    rw [rl_cons (l := [x]) (by simp)]
    simp [rn, rl_nil]
  | cons y t =>
    by_cases h : x.toNat = y.toNat
    · have h1 := rn_like h hl
      have h2 := rn_pos (c := Int.toNat) (M := 256) (by omega) (l := y :: t) (by simp)
      have e1 := rl_cons (l := x :: y :: t) (by simp)
      rw [h1, if_neg (by omega), show (x :: y :: t).drop (1 + rn Int.toNat 256 (y :: t)) = (y :: t).drop (rn Int.toNat 256 (y :: t)) by rw [Nat.add_comm]; rfl] at e1
      rw [e1, rl_cons (l := y :: t) (by simp)]
      simp only [List.length_append]
      split <;> simp only [List.length_cons, List.length_nil] <;> omega
    · rw [rl_cons (l := x :: y :: t) (by simp), rn_one h, if_pos rfl]
      show (rl (y :: t)).length ≤ ([_] ++ rl (y :: t)).length ∧ ([_] ++ rl (y :: t)).length ≤ _
      simp only [List.length_append, List.length_cons, List.length_nil]
      omega
/-- All points moved alike. -/
def mvO (u v : Int) (cs : List (List Pn)) : List (List Pn) := cs.map (fun c => c.map (mvP u v))
theorem mvO_flat (u v : Int) (cs : List (List Pn)) : (mvO u v cs).flatten = cs.flatten.map (mvP u v) := by
  unfold mvO
  rw [List.map_flatten]
theorem mvO_ends (u v : Int) : ∀ (cs : List (List Pn)) (n : Int), endF n (mvO u v cs) = endF n cs := by
  intro cs
  induction cs with
  | nil => intro n; rfl
  | cons c t ih =>
    intro n
    have := ih (n + (c.length : Int))
    unfold mvO at this ⊢
    rw [List.map_cons, endF, endF, List.length_map, this]
theorem difs_mv (u v : Int) : ∀ (l : List Pn) (a b : Int), difs (a + u) (b + v) (l.map (mvP u v)) = difs a b l := by
  intro l
  induction l with
  | nil => intro a b; rfl
  | cons p t ih =>
    intro a b
    rw [List.map_cons, difs, difs]
    have := ih p.x p.y
    show (p.x + u - (a + u), p.y + v - (b + v), p.on) :: difs (p.x + u) (p.y + v) (t.map (mvP u v)) = _
    rw [this, show p.x + u - (a + u) = p.x - a by omega, show p.y + v - (b + v) = p.y - b by omega]
theorem coB_mv (u v : Int) (cs : List (List Pn)) (hl : cs.flatten.length ≤ 80) : (coB cs).length ≤ (coB (mvO u v cs)).length + 6 ∧ (coB (mvO u v cs)).length ≤ (coB cs).length + 6 := by
  unfold coB
  rw [mvO_ends, mvO_flat]
  have e0 : (be2 ((mvO u v cs).length : Int)).length = (be2 (cs.length : Int)).length := rfl
  simp only [List.length_append, e0]
  generalize cs.flatten = l at *
  cases l with
  | nil => simp
  | cons p t =>
    have hd : difs (p.x + u) (p.y + v) (t.map (mvP u v)) = difs p.x p.y t := difs_mv u v t p.x p.y
    have e1 : difs 0 0 ((p :: t).map (mvP u v)) = (p.x + u - 0, p.y + v - 0, p.on) :: difs p.x p.y t := by
      rw [List.map_cons, difs]
      show (p.x + u - 0, p.y + v - 0, p.on) :: difs (p.x + u) (p.y + v) (t.map (mvP u v)) = _
      rw [hd]
    have e2 : difs 0 0 (p :: t) = (p.x - 0, p.y - 0, p.on) :: difs p.x p.y t := rfl
    unfold flL
    rw [e1, e2]
    simp only [List.map_cons, List.flatMap_cons, List.length_append]
    have hL : ((difs p.x p.y t).map (fun t => (flg t : Int))).length = t.length := by rw [List.length_map, difs_len]
    have hl' : t.length + 1 ≤ 80 := by simpa using hl
    have r1 := rl_ahead (x := (flg (p.x - 0, p.y - 0, p.on) : Int)) (F := (difs p.x p.y t).map (fun t => (flg t : Int))) (by rw [List.length_cons, hL]; omega)
    have r2 := rl_ahead (x := (flg (p.x + u - 0, p.y + v - 0, p.on) : Int)) (F := (difs p.x p.y t).map (fun t => (flg t : Int))) (by rw [List.length_cons, hL]; omega)
    have a1 := axB_len (p.x - 0)
    have a2 := axB_len (p.y - 0)
    have a3 := axB_len (p.x + u - 0)
    have a4 := axB_len (p.y + v - 0)
    omega
/-- What 'awake' is about. -/
theorem aw12 : wrOE ⟨[[⟨10, 0, true⟩]], []⟩ = 0 ∧ wrOB ⟨[[⟨10, 0, true⟩]], []⟩ = [0, 1, 0, 0, 51, 10] := by decide +kernel

end Go.Proofs.YtkbbdkecillnpaaGreat
