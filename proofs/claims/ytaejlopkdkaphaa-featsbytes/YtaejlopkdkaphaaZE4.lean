/-
  Two bytes and the number that they are (plain mathematics).
  Packed lists: runs, how they are packed, how they are read (plain mathematics).
  Outlines: whether they are formed, their points, ends and box; their bytes (plain mathematics).
-/
import Derived.Test.YtaejlopkdkaphaaZE3
import Derived.Test.YtaejlopkdkaphaaZE1
namespace Go.Proofs.Ytaejlopkdkaphaa
set_option linter.unusedSimpArgs false
set_option linter.unusedVariables false

theorem be2L (z : Int) : (be2 z).length = 2 := rfl
theorem sx_be2 {z : Int} (h1 : -32768 ≤ z) (h2 : z ≤ 32767) : sx16 (V8 (be2 z)) = z := by
  simp only [be2, V8, List.foldl_cons, List.foldl_nil]
  unfold sx16
  split <;> omega
theorem be_sx2 {xs : List Nat} (h : Byt xs) (hl : xs.length = 2) : be2 (sx16 (V8 xs)) = xs := by
  match xs, hl with
  | [a, b], _ =>
    have ha := h a (by simp)
    have hb := h b (by simp)
    have e : V8 [a, b] = 256 * a + b := by simp only [V8, List.foldl_cons, List.foldl_nil]; omega
    have hz : ∃ k : Int, sx16 (V8 [a, b]) = ((256 * a + b : Nat) : Int) + 65536 * k := by
      rw [e, sx16]
      split
      · exact ⟨-1, by omega⟩
      · exact ⟨0, by omega⟩
    obtain ⟨k, hk⟩ := hz
    rw [hk]
    simp only [be2, List.cons.injEq, and_true]
    refine ⟨by omega, by omega⟩
theorem be_V8 {xs : List Nat} (h : Byt xs) (hl : xs.length = 2) : be2 ((V8 xs : Nat) : Int) = xs := by
  match xs, hl with
  | [a, b], _ =>
    have ha := h a (by simp)
    have hb := h b (by simp)
    have e : V8 [a, b] = 256 * a + b := by simp only [V8, List.foldl_cons, List.foldl_nil]; omega
    rw [e]
    simp only [be2, List.cons.injEq, and_true]
    refine ⟨by omega, by omega⟩

end Go.Proofs.Ytaejlopkdkaphaa

namespace Go.Proofs.Ytaejlopkdkaphaa
set_option linter.unusedSimpArgs false
set_option linter.unusedVariables false

/-- How many numbers the first run has. -/
def rn (c : Int → Nat) (M : Nat) : List Int → Nat
  | [] => 0
  | x :: t => min M (1 + (t.takeWhile (fun y => c y == c x)).length)
theorem rn_pos {c : Int → Nat} {M : Nat} (hM : 0 < M) {l : List Int} (hl : l ≠ []) : 1 ≤ rn c M l := by
  cases l with
  | nil => exact absurd rfl hl
  | cons x t => rw [rn]; omega
theorem takeWhile_le {α : Type} (p : α → Bool) (l : List α) : (l.takeWhile p).length ≤ l.length := by
  induction l with
  | nil => simp
  | cons x t ih => rw [List.takeWhile_cons]; split <;> simp; omega
theorem rn_le {c : Int → Nat} {M : Nat} (l : List Int) : rn c M l ≤ l.length ∧ rn c M l ≤ M := by
  cases l with
  | nil => exact ⟨Nat.le_refl _, Nat.zero_le _⟩
  | cons x t =>
    have := takeWhile_le (fun y => c y == c x) t
    rw [rn, List.length_cons]
    omega
theorem takeWhile_get {p : Int → Bool} : ∀ (l : List Int) (j : Nat), j < (l.takeWhile p).length → p (l.getD j 0) = true := by
  intro l
  induction l with
  | nil => intro j hj; simp at hj
  | cons x t ih =>
    intro j hj
    rw [List.takeWhile_cons] at hj
    split at hj
    · rename_i hx
      cases j with
      | zero => simpa using hx
      | succ j => exact ih j (by simpa using hj)
    · simp at hj
/-- All numbers of a run are of one kind. -/
theorem rn_same {c : Int → Nat} {M : Nat} {l : List Int} {j : Nat} (hj : j < rn c M l) : c (l.getD j 0) = c (l.getD 0 0) := by
  cases l with
  | nil => simp [rn] at hj
  | cons x t =>
    rw [rn] at hj
    cases j with
    | zero => rfl
    | succ j =>
      have := takeWhile_get (p := fun y => c y == c x) t j (by omega)
      simpa using this
theorem takeWhile_at {p : Int → Bool} : ∀ {l : List Int} {k : Nat}, (∀ j, j < k → p (l.getD j 0) = true) → k ≤ l.length → (k = l.length ∨ p (l.getD k 0) = false) → (l.takeWhile p).length = k := by
  intro l
  induction l with
  | nil => intro k _ hk _; simp at hk; simp [hk]
  | cons x t ih =>
    intro k h1 hk h2
    cases k with
    | zero =>
      rcases h2 with h2 | h2
      · simp at h2
      · rw [List.takeWhile_cons, if_neg (by simpa using h2)]
        rfl
    | succ k =>
      have hx : p x = true := h1 0 (by omega)
      rw [List.takeWhile_cons, if_pos hx, List.length_cons, ih (k := k) (fun j hj => h1 (j + 1) (by omega)) (by simpa using hk) (by simpa using h2)]
theorem takeWhile_ge {p : Int → Bool} : ∀ {l : List Int} {k : Nat}, (∀ j, j < k → p (l.getD j 0) = true) → k ≤ l.length → k ≤ (l.takeWhile p).length := by
  intro l
  induction l with
  | nil => intro k _ hk; simpa using hk
  | cons x t ih =>
    intro k h1 hk
    cases k with
    | zero => exact Nat.zero_le _
    | succ k =>
      have hx : p x = true := h1 0 (by omega)
      rw [List.takeWhile_cons, if_pos hx, List.length_cons]
      have := ih (k := k) (fun j hj => h1 (j + 1) (by omega)) (by simpa using hk)
      omega
/-- A run is as long as may be: as a loop finds it. -/
theorem rn_eq {c : Int → Nat} {M : Nat} {l : List Int} {k : Nat} (h0 : 1 ≤ k) (h1 : k ≤ M) (h2 : k ≤ l.length) (h3 : ∀ j, j < k → c (l.getD j 0) = c (l.getD 0 0)) (h4 : k = M ∨ k = l.length ∨ c (l.getD k 0) ≠ c (l.getD 0 0)) : rn c M l = k := by
  cases l with
  | nil => simp at h2; omega
  | cons x t =>
    obtain ⟨k, rfl⟩ : ∃ m, k = m + 1 := ⟨k - 1, by omega⟩
    have a1 : ∀ j, j < k → (fun y => c y == c x) (t.getD j 0) = true := fun j hj => by
      have := h3 (j + 1) (by omega)
      simpa using this
    have a2 : k ≤ t.length := by simpa using h2
    have a3 := takeWhile_ge (p := fun y => c y == c x) a1 a2
    rw [rn]
    rcases h4 with h4 | h4 | h4
    · omega
    · rw [takeWhile_at (p := fun y => c y == c x) a1 a2 (.inl (by simpa using h4))]; omega
    · rw [takeWhile_at (p := fun y => c y == c x) a1 a2 (.inr (by simpa using h4))]; omega

/-- A way of packing: the kind of a number, the longest run, how far apart kinds are in the head, the bytes of a number of a kind. -/
structure Pk where
  c : Int → Nat
  M : Nat
  en : Nat → Int → List Nat
def pkF (P : Pk) : Nat → List Int → List Nat
  | 0, _ => []
  | _ + 1, [] => []
  | n + 1, x :: t => [P.M * P.c x + rn P.c P.M (x :: t) - 1] ++ (((x :: t).take (rn P.c P.M (x :: t))).flatMap (P.en (P.c x)) ++ pkF P n ((x :: t).drop (rn P.c P.M (x :: t))))
def pk (P : Pk) (l : List Int) : List Nat := pkF P l.length l
theorem pkF_nil (P : Pk) (n : Nat) : pkF P n [] = [] := by cases n <;> rfl
theorem pkF_fuel (P : Pk) (hM : 0 < P.M) : ∀ (n : Nat) (l : List Int), l.length ≤ n → pkF P n l = pk P l := by
  intro n
  induction n using Nat.strongRecOn with
  | ind n ih =>
    intro l hl
    cases l with
    | nil => rw [pkF_nil, pk, pkF_nil]
    | cons x t =>
      obtain ⟨n, rfl⟩ : ∃ m, n = m + 1 := ⟨n - 1, by simp at hl; omega⟩
      have h1 := rn_pos (c := P.c) hM (l := x :: t) (by simp)
      have hd : ((x :: t).drop (rn P.c P.M (x :: t))).length ≤ t.length := by rw [List.length_drop, List.length_cons]; omega
      have ht : t.length ≤ n := by simpa using hl
      rw [pk, List.length_cons, pkF, pkF, ih n (by omega) _ (by omega)]
      by_cases htn : t.length < n + 1
      · rw [ih t.length (by omega) _ hd]
      · omega
theorem pk_nil (P : Pk) : pk P [] = [] := rfl
theorem pk_cons (P : Pk) (hM : 0 < P.M) {l : List Int} (hl : l ≠ []) :
    pk P l = [P.M * P.c (l.getD 0 0) + rn P.c P.M l - 1] ++ ((l.take (rn P.c P.M l)).flatMap (P.en (P.c (l.getD 0 0))) ++ pk P (l.drop (rn P.c P.M l))) := by
  cases l with
  | nil => exact absurd rfl hl
  | cons x t =>
    have h1 := rn_pos (c := P.c) hM (l := x :: t) (by simp)
    have hd : ((x :: t).drop (rn P.c P.M (x :: t))).length ≤ t.length := by rw [List.length_drop, List.length_cons]; omega
    conv => lhs; rw [pk, List.length_cons, pkF, pkF_fuel P hM _ _ hd]
    rfl

/-- A way of reading: what a head says (its kind, how many numbers), how many bytes a number of a kind takes, its number. -/
structure Rp where
  M : Nat
  top : Nat
  sz : Nat → Nat
  vl : List Nat → Nat → Nat → Int
/-- The numbers of a run. -/
def runV (R : Rp) (b : List Nat) (kd at_ k : Nat) : List Int := (List.range k).map (fun i => R.vl b kd (at_ + i * R.sz kd))
theorem runV_len (R : Rp) (b : List Nat) (kd at_ k : Nat) : (runV R b kd at_ k).length = k := by simp [runV]
theorem runV_succ (R : Rp) (b : List Nat) (kd at_ k : Nat) : runV R b kd at_ (k + 1) = runV R b kd at_ k ++ [R.vl b kd (at_ + k * R.sz kd)] := by simp [runV, List.range_succ]
/-- Whether a run is there, of at most so many numbers. -/
def hdB (R : Rp) (b : List Nat) (at_ n : Nat) : Bool :=
  decide (at_ + 1 ≤ b.length ∧ nmV b (at_ : Int) 1 < R.top ∧ nmV b (at_ : Int) 1 % R.M + 1 ≤ n ∧ at_ + 1 + (nmV b (at_ : Int) 1 % R.M + 1) * R.sz (nmV b (at_ : Int) 1 / R.M) ≤ b.length)
def rdF (R : Rp) (b : List Nat) : Nat → Nat → Nat → Option (List Int × Nat)
  | _, at_, 0 => some ([], at_)
  | 0, _, _ + 1 => none
  | f + 1, at_, n + 1 => if hdB R b at_ (n + 1) then
      (match rdF R b f (at_ + 1 + (nmV b (at_ : Int) 1 % R.M + 1) * R.sz (nmV b (at_ : Int) 1 / R.M)) (n + 1 - (nmV b (at_ : Int) 1 % R.M + 1)) with
      | some (l, e) => some (runV R b (nmV b (at_ : Int) 1 / R.M) (at_ + 1) (nmV b (at_ : Int) 1 % R.M + 1) ++ l, e)
      | none => none) else none
theorem rdF_zero (R : Rp) (b : List Nat) (f at_ : Nat) : rdF R b f at_ 0 = some ([], at_) := by cases f <;> rfl
theorem rdF_fuel (R : Rp) (b : List Nat) : ∀ (f g at_ n : Nat), n ≤ f → n ≤ g → rdF R b f at_ n = rdF R b g at_ n := by
  intro f
  induction f with
  | zero =>
    intro g at_ n hf _
    obtain rfl : n = 0 := Nat.le_zero.1 hf
    rw [rdF_zero, rdF_zero]
  | succ f ih =>
    intro g at_ n hf hg
    cases n with
    | zero => rw [rdF_zero, rdF_zero]
    | succ n =>
      obtain ⟨g, rfl⟩ : ∃ m, g = m + 1 := ⟨g - 1, by omega⟩
      rw [rdF, rdF, ih g _ _ (by omega) (by omega)]
theorem rdF_len (R : Rp) (b : List Nat) : ∀ (f at_ n : Nat) (l : List Int) (e : Nat), rdF R b f at_ n = some (l, e) → l.length = n ∧ at_ ≤ e ∧ (at_ ≤ b.length → e ≤ b.length) := by
  intro f
  induction f with
  | zero =>
    intro at_ n l e h
    cases n with
    | zero => rw [rdF_zero] at h; cases h; exact ⟨rfl, Nat.le_refl _, fun h => h⟩
    | succ n => cases h
  | succ f ih =>
    intro at_ n l e h
    cases n with
    | zero => rw [rdF_zero] at h; cases h; exact ⟨rfl, Nat.le_refl _, fun h => h⟩
    | succ n =>
      rw [rdF] at h
      split at h
      · rename_i hh
        have hh' := of_decide_eq_true hh
        split at h
        · rename_i l' e' hr
          cases h
          obtain ⟨h1, h2, h3⟩ := ih _ _ _ _ hr
          refine ⟨?_, by omega, fun _ => h3 hh'.2.2.2⟩
          rw [List.length_append, runV_len, h1]
          omega
        · cases h
      · cases h
/-- What is read stays, whatever stands behind. -/
theorem nmV_more {b Z : List Nat} {p n : Nat} (h : p + n ≤ b.length) : nmV (b ++ Z) (p : Int) n = nmV b (p : Int) n := by
  have e1 : inB (b ++ Z).length (p : Int) (n : Int) = true := by simp only [inB, decide_eq_true_iff, List.length_append]; omega
  have e2 : inB b.length (p : Int) (n : Int) = true := by simp only [inB, decide_eq_true_iff]; omega
  rw [nmV, nmV, if_pos e1, if_pos e2, Int.toNat_natCast, List.drop_append_of_le_length (by omega), List.take_append_of_le_length (by rw [List.length_drop]; omega)]
theorem rdF_more (R : Rp) (hv : ∀ b Z kd p, p + R.sz kd ≤ b.length → R.vl (b ++ Z) kd p = R.vl b kd p) (b Z : List Nat) : ∀ (f at_ n : Nat) (l : List Int) (e : Nat), rdF R b f at_ n = some (l, e) → rdF R (b ++ Z) f at_ n = some (l, e) := by
  intro f
  induction f with
  | zero =>
    intro at_ n l e h
    cases n with
    | zero => rw [rdF_zero] at h ⊢; exact h
    | succ n => cases h
  | succ f ih =>
    intro at_ n l e h
    cases n with
    | zero => rw [rdF_zero] at h ⊢; exact h
    | succ n =>
      rw [rdF] at h
      split at h
      · rename_i hh
        have hh' := of_decide_eq_true hh
        have eh : nmV (b ++ Z) (at_ : Int) 1 = nmV b (at_ : Int) 1 := nmV_more hh'.1
        have hb : hdB R (b ++ Z) at_ (n + 1) = true := by
          rw [hdB, eh]
          exact decide_eq_true ⟨by rw [List.length_append]; omega, hh'.2.1, hh'.2.2.1, by rw [List.length_append]; omega⟩
        split at h
        · rename_i l' e' hr
          cases h
          rw [rdF, if_pos hb, eh, ih _ _ _ _ hr]
          dsimp only
          have er : runV R (b ++ Z) (nmV b (at_ : Int) 1 / R.M) (at_ + 1) (nmV b (at_ : Int) 1 % R.M + 1) = runV R b (nmV b (at_ : Int) 1 / R.M) (at_ + 1) (nmV b (at_ : Int) 1 % R.M + 1) := by
            unfold runV
            refine List.map_congr_left fun i hi => ?_
            have hi' : i < nmV b (at_ : Int) 1 % R.M + 1 := by simpa using hi
            refine hv _ _ _ _ ?_
            have h1 : (i + 1) * R.sz (nmV b (at_ : Int) 1 / R.M) ≤ (nmV b (at_ : Int) 1 % R.M + 1) * R.sz (nmV b (at_ : Int) 1 / R.M) := Nat.mul_le_mul_right _ hi'
            rw [Nat.add_mul, Nat.one_mul] at h1
            have := hh'.2.2.2
            omega
          rw [er]
        · cases h
      · cases h
/-- Bytes that lack one of what is read are refused. -/
theorem rdF_cut (R : Rp) (hv : ∀ b Z kd p, p + R.sz kd ≤ b.length → R.vl (b ++ Z) kd p = R.vl b kd p) {b : List Nat} {f at_ n : Nat} {l : List Int} (h : rdF R b f at_ n = some (l, b.length)) {j : Nat} (hj : j < b.length) (hat : at_ ≤ j) : rdF R (b.take j) f at_ n = none := by
  cases hr : rdF R (b.take j) f at_ n with
  | none => rfl
  | some p =>
    obtain ⟨l', e⟩ := p
    have h1 := rdF_more R hv (b.take j) (b.drop j) f at_ n l' e hr
    rw [List.take_append_drop, h] at h1
    have h2 := (rdF_len R _ f at_ n l' e hr).2.2 (by rw [List.length_take]; omega)
    rw [List.length_take] at h2
    cases h1
    omega

end Go.Proofs.Ytaejlopkdkaphaa

namespace Go.Proofs.Ytaejlopkdkaphaa
set_option linter.unusedSimpArgs false
set_option linter.unusedVariables false

structure Pn where
  x : Int
  y : Int
  on : Bool
structure Pa where
  g : Int
  dx : Int
  dy : Int
structure Ol where
  cs : List (List Pn)
  ps : List Pa
def Pn.none : Pn := ⟨0, 0, false⟩
def Pa.none : Pa := ⟨0, 0, 0⟩
def Ol.none : Ol := ⟨[], []⟩
def pnF (p : Pn) : Bool := fdB p.x && fdB p.y
def paF (p : Pa) : Bool := decide (0 ≤ p.g ∧ p.g ≤ 65535) && (fdB p.dx && fdB p.dy)
/-- Formed. -/
def foB (o : Ol) : Bool :=
  !(decide (0 < o.cs.length) && decide (0 < o.ps.length)) && (decide (o.cs.length ≤ 10) && (decide (o.ps.length ≤ 6) && (o.cs.all (fun c => decide (0 < c.length)) && (decide (o.cs.flatten.length ≤ 80) && (o.cs.flatten.all pnF && o.ps.all paF)))))
def FoP (o : Ol) : Prop := (o.cs.length = 0 ∨ o.ps.length = 0) ∧ o.cs.length ≤ 10 ∧ o.ps.length ≤ 6 ∧ (∀ c ∈ o.cs, 0 < c.length) ∧ o.cs.flatten.length ≤ 80 ∧ (∀ p ∈ o.cs.flatten, (-32768 ≤ p.x ∧ p.x ≤ 32767) ∧ (-32768 ≤ p.y ∧ p.y ≤ 32767)) ∧ (∀ p ∈ o.ps, (0 ≤ p.g ∧ p.g ≤ 65535) ∧ (-32768 ≤ p.dx ∧ p.dx ≤ 32767) ∧ (-32768 ≤ p.dy ∧ p.dy ≤ 32767))
theorem foB_iff {o : Ol} : foB o = true ↔ FoP o := by
  unfold foB FoP pnF paF
  simp only [Bool.and_eq_true, Bool.not_eq_true', Bool.and_eq_false_iff, decide_eq_true_iff, decide_eq_false_iff_not, List.all_eq_true, fdB_iff]
  constructor
  · rintro ⟨h, r⟩
    exact ⟨by omega, r⟩
  · rintro ⟨h, r⟩
    exact ⟨by omega, r⟩
/-- Where contours end. -/
def endF (n : Int) : List (List Pn) → List Int
  | [] => []
  | c :: t => (n + (c.length : Int) - 1) :: endF (n + (c.length : Int)) t
theorem endF_len (n : Int) (l : List (List Pn)) : (endF n l).length = l.length := by
  induction l generalizing n with
  | nil => rfl
  | cons c t ih => rw [endF, List.length_cons, ih, List.length_cons]
theorem endF_append (n : Int) (l m : List (List Pn)) : endF n (l ++ m) = endF n l ++ endF (n + (l.flatten.length : Int)) m := by
  induction l generalizing n with
  | nil => simp [endF]
  | cons c t ih =>
    rw [List.cons_append, endF, endF, ih, List.flatten_cons, List.length_append, List.cons_append, Int.natCast_add]
    congr 2
    congr 1
    omega
/-- The box of points. -/
def bxS (b : Int × Int × Int × Int) (q : Pn) : Int × Int × Int × Int := (min b.1 q.x, min b.2.1 q.y, max b.2.2.1 q.x, max b.2.2.2 q.y)
def bxO : List Pn → Int × Int × Int × Int
  | [] => (0, 0, 0, 0)
  | p :: t => t.foldl bxS (p.x, p.y, p.x, p.y)
theorem bxO_snoc {l : List Pn} (hl : l ≠ []) (q : Pn) : bxO (l ++ [q]) = bxS (bxO l) q := by
  cases l with
  | nil => exact absurd rfl hl
  | cons p t => rw [List.cons_append, bxO, bxO, List.foldl_append]; rfl
theorem bxO_one (q : Pn) : bxO [q] = (q.x, q.y, q.x, q.y) := rfl
def mvP (u v : Int) (p : Pn) : Pn := ⟨p.x + u, p.y + v, p.on⟩
theorem bxF_mv (u v : Int) : ∀ (l : List Pn) (b : Int × Int × Int × Int), (l.map (mvP u v)).foldl bxS (b.1 + u, b.2.1 + v, b.2.2.1 + u, b.2.2.2 + v) = ((l.foldl bxS b).1 + u, (l.foldl bxS b).2.1 + v, (l.foldl bxS b).2.2.1 + u, (l.foldl bxS b).2.2.2 + v) := by
  intro l
  induction l with
  | nil => intro b; rfl
  | cons p t ih =>
    intro b
    rw [List.map_cons, List.foldl_cons, List.foldl_cons, ← ih (bxS b p)]
    congr 1
    unfold bxS mvP
    dsimp only
    refine Prod.ext ?_ (Prod.ext ?_ (Prod.ext ?_ ?_)) <;> dsimp only <;> omega
theorem bxO_mv (u v : Int) {l : List Pn} (hl : l ≠ []) : bxO (l.map (mvP u v)) = ((bxO l).1 + u, (bxO l).2.1 + v, (bxO l).2.2.1 + u, (bxO l).2.2.2 + v) := by
  cases l with
  | nil => exact absurd rfl hl
  | cons p t => exact bxF_mv u v t (p.x, p.y, p.x, p.y)

/-- The steps from point to point. -/
def difs (a b : Int) : List Pn → List (Int × Int × Bool)
  | [] => []
  | p :: t => (p.x - a, p.y - b, p.on) :: difs p.x p.y t
theorem difs_len (a b : Int) (l : List Pn) : (difs a b l).length = l.length := by
  induction l generalizing a b with
  | nil => rfl
  | cons p t ih => rw [difs, List.length_cons, ih, List.length_cons]
theorem difs_get : ∀ (l : List Pn) (a b : Int) (i : Nat), i < l.length → (difs a b l).getD i (0, 0, false) = ((l.getD i Pn.none).x - (if i = 0 then a else (l.getD (i - 1) Pn.none).x), (l.getD i Pn.none).y - (if i = 0 then b else (l.getD (i - 1) Pn.none).y), (l.getD i Pn.none).on) := by
  intro l
  induction l with
  | nil => intro a b i hi; simp at hi
  | cons p t ih =>
    intro a b i hi
    cases i with
    | zero => rfl
    | succ i =>
      rw [difs, List.getD_cons_succ, ih p.x p.y i (by simpa using hi)]
      cases i with
      | zero => simp
      | succ i => simp
def axF (d : Int) (sh sm : Nat) : Nat := if d = 0 then sm else if 0 < d ∧ d < 256 then sh + sm else if d < 0 ∧ -256 < d then sh else 0
def axB (d : Int) : List Nat := if d = 0 then [] else if 0 < d ∧ d < 256 then [d.toNat] else if d < 0 ∧ -256 < d then [(-d).toNat] else be2 d
theorem ax_cases (d : Int) : (d = 0) ∨ (0 < d ∧ d < 256) ∨ (d < 0 ∧ -256 < d) ∨ (d ≤ -256 ∨ 256 ≤ d) := by omega
theorem axB_len (d : Int) : (axB d).length ≤ 2 := by unfold axB be2; split <;> (try split) <;> (try split) <;> simp
theorem byt_axB (d : Int) : Byt (axB d) := by
  unfold axB
  split
  · exact Byt.nil
  · split
    · rename_i h; intro x hx; rw [List.mem_singleton.1 hx]; omega
    · split
      · rename_i h; intro x hx; rw [List.mem_singleton.1 hx]; omega
      · exact byt_be2 _
def flg (t : Int × Int × Bool) : Nat := axF t.1 2 16 + axF t.2.1 4 32 + (if t.2.2 then 1 else 0)
/-- A flag that is written: bits 1, 2, 4, 16, 32. -/
theorem flg_bits (t : Int × Int × Bool) : flg t < 64 ∧ flg t / 8 % 2 = 0 ∧ flg t % 2 = (if t.2.2 then 1 else 0) ∧ (flg t / 2 % 2 = 1 ↔ (t.1 ≠ 0 ∧ -256 < t.1 ∧ t.1 < 256)) ∧ (flg t / 16 % 2 = 1 ↔ (0 ≤ t.1 ∧ t.1 < 256)) ∧ (flg t / 4 % 2 = 1 ↔ (t.2.1 ≠ 0 ∧ -256 < t.2.1 ∧ t.2.1 < 256)) ∧ (flg t / 32 % 2 = 1 ↔ (0 ≤ t.2.1 ∧ t.2.1 < 256)) := by
  obtain ⟨d, e, c⟩ := t
  unfold flg axF
  dsimp only
  rcases ax_cases d with h | h | h | h <;> rcases ax_cases e with k | k | k | k <;> cases c <;> (repeat' split) <;> (try omega) <;> refine ⟨by omega, by omega, by omega, ?_, ?_, ?_, ?_⟩ <;> constructor <;> intro q <;> omega
/-- Runs of flags. -/
def rlF : Nat → List Int → List Nat
  | 0, _ => []
  | _ + 1, [] => []
  | n + 1, x :: t => (if rn Int.toNat 256 (x :: t) = 1 then [x.toNat] else [x.toNat + 8, rn Int.toNat 256 (x :: t) - 1]) ++ rlF n ((x :: t).drop (rn Int.toNat 256 (x :: t)))
def rl (l : List Int) : List Nat := rlF l.length l
theorem rlF_nil (n : Nat) : rlF n [] = [] := by cases n <;> rfl
theorem rl_nil : rl [] = [] := rfl
theorem rlF_fuel : ∀ (n : Nat) (l : List Int), l.length ≤ n → rlF n l = rl l := by
  intro n
  induction n using Nat.strongRecOn with
  | ind n ih =>
    intro l hl
    cases l with
    | nil => rw [rlF_nil, rl_nil]
    | cons x t =>
      obtain ⟨n, rfl⟩ : ∃ m, n = m + 1 := ⟨n - 1, by simp at hl; omega⟩
      have h1 := rn_pos (c := Int.toNat) (M := 256) (by omega) (l := x :: t) (by simp)
      have hd : ((x :: t).drop (rn Int.toNat 256 (x :: t))).length ≤ t.length := by rw [List.length_drop, List.length_cons]; omega
      have ht : t.length ≤ n := by simpa using hl
      rw [rl, List.length_cons, rlF, rlF, ih n (by omega) _ (by omega)]
      by_cases htn : t.length < n + 1
      · rw [ih t.length (by omega) _ hd]
      · omega
theorem rl_cons {l : List Int} (hl : l ≠ []) : rl l = (if rn Int.toNat 256 l = 1 then [(l.getD 0 0).toNat] else [(l.getD 0 0).toNat + 8, rn Int.toNat 256 l - 1]) ++ rl (l.drop (rn Int.toNat 256 l)) := by
  cases l with
  | nil => exact absurd rfl hl
  | cons x t =>
    have h1 := rn_pos (c := Int.toNat) (M := 256) (by omega) (l := x :: t) (by simp)
    have hd : ((x :: t).drop (rn Int.toNat 256 (x :: t))).length ≤ t.length := by rw [List.length_drop, List.length_cons]; omega
    conv => lhs; rw [rl, List.length_cons, rlF, rlF_fuel _ _ hd]
    rfl
/-- The bytes of contours, and of parts. -/
def flL (l : List Pn) : List Int := (difs 0 0 l).map (fun t => (flg t : Int))
def coB (cs : List (List Pn)) : List Nat := be2 (cs.length : Int) ++ ((endF 0 cs).flatMap be2 ++ (rl (flL cs.flatten) ++ ((difs 0 0 cs.flatten).flatMap (fun t => axB t.1) ++ (difs 0 0 cs.flatten).flatMap (fun t => axB t.2.1))))
def paE (p : Pa) : List Nat := be2 p.g ++ (be2 p.dx ++ be2 p.dy)
def paB (ps : List Pa) : List Nat := [255, 255] ++ (be2 (ps.length : Int) ++ ps.flatMap paE)
/-- Whether all steps are fields. -/
def diB (l : List Pn) : Bool := (difs 0 0 l).all (fun t => fdB t.1 && fdB t.2.1)
def wrOE (o : Ol) : Int := if foB o then (if o.ps.length = 0 then (if diB o.cs.flatten then 0 else 4) else 0) else 1
def wrOB (o : Ol) : List Nat := if foB o then (if o.ps.length = 0 then (if diB o.cs.flatten then coB o.cs else []) else paB o.ps) else []

end Go.Proofs.Ytaejlopkdkaphaa
