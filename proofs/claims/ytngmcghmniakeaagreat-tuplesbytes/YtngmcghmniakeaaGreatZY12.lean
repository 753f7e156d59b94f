/-
  Two bytes and the number that they are (plain mathematics).
  Packed lists: runs, how they are packed, how they are read (plain mathematics).
  Outlines: whether they are formed, their points, ends and box; their bytes (plain mathematics).
  Outlines: how bytes are read, and that what is written is read (plain mathematics).
-/
import Derived.Test.YtngmcghmniakeaaGreatZY11
import Derived.Test.YtngmcghmniakeaaGreatZY6
set_option linter.unusedSimpArgs false
set_option linter.unusedVariables false
namespace Go.Proofs.YtngmcghmniakeaaGreat
theorem sx_be2 {z : Int} (h1 : -32768 ≤ z) (h2 : z ≤ 32767) : sx16 (V8 (be2 z)) = z := by
 simp only [be2, V8, List.foldl_cons, List.foldl_nil]
 unfold sx16
 split <;> omega
def rn (c : Int → Nat) (M : Nat) : List Int → Nat
 | [] => 0
 | x :: t => min M (1 + (t.takeWhile (fun y => c y == c x)).length)
theorem rn_pos {c : Int → Nat} {M : Nat} (hM : 0 < M) {l : List Int} (hl : l ≠ []) : 1 ≤ rn c M l := by
 cases l with
 | nil => exact absurd rfl hl
 | cons x t => rw [rn]; omega
theorem takeWhile_le {α : Type} (p : α → Bool) (l : List α) : (l.takeWhile p).length ≤ l.length := by
 induction l with
 | nil => simp
 | cons x t ih => rw [List.takeWhile_cons]; split <;> simp; omega
theorem rn_le {c : Int → Nat} {M : Nat} (l : List Int) : rn c M l ≤ l.length ∧ rn c M l ≤ M := by
 cases l with
 | nil => exact ⟨Nat.le_refl _, Nat.zero_le _⟩
 | cons x t =>
  have := takeWhile_le (fun y => c y == c x) t
  rw [rn, List.length_cons]
  omega
theorem takeWhile_get {p : Int → Bool} : ∀ (l : List Int) (j : Nat), j < (l.takeWhile p).length → p (l.getD j 0) = true := by
 intro l
 induction l with
 | nil => intro j hj; simp at hj
 | cons x t ih =>
  intro j hj
  rw [List.takeWhile_cons] at hj
  split at hj
  · rename_i hx
    cases j with
    | zero => simpa using hx
    | succ j => exact ih j (by simpa using hj)
  · simp at hj
theorem rn_same {c : Int → Nat} {M : Nat} {l : List Int} {j : Nat} (hj : j < rn c M l) : c (l.getD j 0) = c (l.getD 0 0) := by
 cases l with
 | nil => simp [rn] at hj
 | cons x t =>
  rw [rn] at hj
  cases j with
  | zero => rfl
  | succ j =>
   have := takeWhile_get (p := fun y => c y == c x) t j (by omega)
   simpa using this
theorem takeWhile_at {p : Int → Bool} : ∀ {l : List Int} {k : Nat}, (∀ j, j < k → p (l.getD j 0) = true) → k ≤ l.length → (k = l.length ∨ p (l.getD k 0) = false) → (l.takeWhile p).length = k := by
 intro l
 induction l with
 | nil => intro k _ hk _; simp at hk; simp [hk]
 | cons x t ih =>
  intro k h1 hk h2
  cases k with
  | zero =>
   rcases h2 with h2 | h2
   · simp at h2
   · rw [List.takeWhile_cons, if_neg (by simpa using h2)]
     rfl
  | succ k =>
   have hx : p x = true := h1 0 (by omega)
   rw [List.takeWhile_cons, if_pos hx, List.length_cons, ih (k := k) (fun j hj => h1 (j + 1) (by omega)) (by simpa using hk) (by simpa using h2)]
theorem takeWhile_ge {p : Int → Bool} : ∀ {l : List Int} {k : Nat}, (∀ j, j < k → p (l.getD j 0) = true) → k ≤ l.length → k ≤ (l.takeWhile p).length := by
 intro l
 induction l with
 | nil => intro k _ hk; simpa using hk
 | cons x t ih =>
  intro k h1 hk
  cases k with
  | zero => exact Nat.zero_le _
  | succ k =>
   have hx : p x = true := h1 0 (by omega)
   rw [List.takeWhile_cons, if_pos hx, List.length_cons]
   have := ih (k := k) (fun j hj => h1 (j + 1) (by omega)) (by simpa using hk)
   omega
theorem rn_eq {c : Int → Nat} {M : Nat} {l : List Int} {k : Nat} (h0 : 1 ≤ k) (h1 : k ≤ M) (h2 : k ≤ l.length) (h3 : ∀ j, j < k → c (l.getD j 0) = c (l.getD 0 0)) (h4 : k = M ∨ k = l.length ∨ c (l.getD k 0) ≠ c (l.getD 0 0)) : rn c M l = k := by
 cases l with
 | nil => simp at h2; omega
 | cons x t =>
  obtain ⟨k, rfl⟩ : ∃ m, k = m + 1 := ⟨k - 1, by omega⟩
  have a1 : ∀ j, j < k → (fun y => c y == c x) (t.getD j 0) = true := fun j hj => by
   have := h3 (j + 1) (by omega)
   simpa using this
  have a2 : k ≤ t.length := by simpa using h2
  have a3 := takeWhile_ge (p := fun y => c y == c x) a1 a2
  rw [rn]
  rcases h4 with h4 | h4 | h4
  · omega
  · rw [takeWhile_at (p := fun y => c y == c x) a1 a2 (.inl (by simpa using h4))]; omega
  · rw [takeWhile_at (p := fun y => c y == c x) a1 a2 (.inr (by simpa using h4))]; omega
structure Pk where
 c : Int → Nat
 M : Nat
 en : Nat → Int → List Nat
def pkF (P : Pk) : Nat → List Int → List Nat
 | 0, _ => []
 | _ + 1, [] => []
 | n + 1, x :: t => [P.M * P.c x + rn P.c P.M (x :: t) - 1] ++ (((x :: t).take (rn P.c P.M (x :: t))).flatMap (P.en (P.c x)) ++ pkF P n ((x :: t).drop (rn P.c P.M (x :: t))))
def pk (P : Pk) (l : List Int) : List Nat := pkF P l.length l
theorem pkF_nil (P : Pk) (n : Nat) : pkF P n [] = [] := by cases n <;> rfl
theorem pkF_fuel (P : Pk) (hM : 0 < P.M) : ∀ (n : Nat) (l : List Int), l.length ≤ n → pkF P n l = pk P l := by
 intro n
 induction n using Nat.strongRecOn with
 | ind n ih =>
  intro l hl
  cases l with
  | nil => rw [pkF_nil, pk, pkF_nil]
  | cons x t =>
   obtain ⟨n, rfl⟩ : ∃ m, n = m + 1 := ⟨n - 1, by simp at hl; omega⟩
   have h1 := rn_pos (c := P.c) hM (l := x :: t) (by simp)
   have hd : ((x :: t).drop (rn P.c P.M (x :: t))).length ≤ t.length := by rw [List.length_drop, List.length_cons]; omega
   have ht : t.length ≤ n := by simpa using hl
   rw [pk, List.length_cons, pkF, pkF, ih n (by omega) _ (by omega)]
   by_cases htn : t.length < n + 1
   · rw [ih t.length (by omega) _ hd]
   · omega
theorem pk_nil (P : Pk) : pk P [] = [] := rfl
theorem pk_cons (P : Pk) (hM : 0 < P.M) {l : List Int} (hl : l ≠ []) :
    pk P l = [P.M * P.c (l.getD 0 0) + rn P.c P.M l - 1] ++ ((l.take (rn P.c P.M l)).flatMap (P.en (P.c (l.getD 0 0))) ++ pk P (l.drop (rn P.c P.M l))) := by
 cases l with
 | nil => exact absurd rfl hl
 | cons x t =>
  have h1 := rn_pos (c := P.c) hM (l := x :: t) (by simp)
  have hd : ((x :: t).drop (rn P.c P.M (x :: t))).length ≤ t.length := by rw [List.length_drop, List.length_cons]; omega
  conv => lhs; rw [pk, List.length_cons, pkF, pkF_fuel P hM _ _ hd]
  rfl
structure Rp where
 M : Nat
 top : Nat
 sz : Nat → Nat
 vl : List Nat → Nat → Nat → Int
def runV (R : Rp) (b : List Nat) (kd at_ k : Nat) : List Int := (List.range k).map (fun i => R.vl b kd (at_ + i * R.sz kd))
theorem runV_len (R : Rp) (b : List Nat) (kd at_ k : Nat) : (runV R b kd at_ k).length = k := by simp [runV]
theorem runV_succ (R : Rp) (b : List Nat) (kd at_ k : Nat) : runV R b kd at_ (k + 1) = runV R b kd at_ k ++ [R.vl b kd (at_ + k * R.sz kd)] := by simp [runV, List.range_succ]
def hdB (R : Rp) (b : List Nat) (at_ n : Nat) : Bool :=
 decide (at_ + 1 ≤ b.length ∧ nmV b (at_ : Int) 1 < R.top ∧ nmV b (at_ : Int) 1 % R.M + 1 ≤ n ∧ at_ + 1 + (nmV b (at_ : Int) 1 % R.M + 1) * R.sz (nmV b (at_ : Int) 1 / R.M) ≤ b.length)
def rdF (R : Rp) (b : List Nat) : Nat → Nat → Nat → Option (List Int × Nat)
 | _, at_, 0 => some ([], at_)
 | 0, _, _ + 1 => none
 | f + 1, at_, n + 1 => if hdB R b at_ (n + 1) then
     (match rdF R b f (at_ + 1 + (nmV b (at_ : Int) 1 % R.M + 1) * R.sz (nmV b (at_ : Int) 1 / R.M)) (n + 1 - (nmV b (at_ : Int) 1 % R.M + 1)) with
     | some (l, e) => some (runV R b (nmV b (at_ : Int) 1 / R.M) (at_ + 1) (nmV b (at_ : Int) 1 % R.M + 1) ++ l, e)
     | none => none) else none
theorem rdF_zero (R : Rp) (b : List Nat) (f at_ : Nat) : rdF R b f at_ 0 = some ([], at_) := by cases f <;> rfl
theorem rdF_fuel (R : Rp) (b : List Nat) : ∀ (f g at_ n : Nat), n ≤ f → n ≤ g → rdF R b f at_ n = rdF R b g at_ n := by
 intro f
 induction f with
 | zero =>
  intro g at_ n hf _
  obtain rfl : n = 0 := Nat.le_zero.1 hf
  rw [rdF_zero, rdF_zero]
 | succ f ih =>
  intro g at_ n hf hg
  cases n with
  | zero => rw [rdF_zero, rdF_zero]
  | succ n =>
   obtain ⟨g, rfl⟩ : ∃ m, g = m + 1 := ⟨g - 1, by omega⟩
   rw [rdF, rdF, ih g _ _ (by omega) (by omega)]
theorem rdF_len (R : Rp) (b : List Nat) : ∀ (f at_ n : Nat) (l : List Int) (e : Nat), rdF R b f at_ n = some (l, e) → l.length = n ∧ at_ ≤ e ∧ (at_ ≤ b.length → e ≤ b.length) := by
 intro f
 induction f with
 | zero =>
  intro at_ n l e h
  cases n with
  | zero => rw [rdF_zero] at h; cases h; exact ⟨rfl, Nat.le_refl _, fun h => h⟩
  | succ n => cases h
 | succ f ih =>
  intro at_ n l e h
  cases n with
  | zero => rw [rdF_zero] at h; cases h; exact ⟨rfl, Nat.le_refl _, fun h => h⟩
  | succ n =>
   rw [rdF] at h
   split at h
   · rename_i hh
     have hh' := of_decide_eq_true hh
     split at h
     · rename_i l' e' hr
       cases h
       obtain ⟨h1, h2, h3⟩ := ih _ _ _ _ hr
       refine ⟨?_, by omega, fun _ => h3 hh'.2.2.2⟩
       rw [List.length_append, runV_len, h1]
       omega
     · cases h
   · cases h
structure Pn where
 x : Int
 y : Int
 on : Bool
structure Pa where
 g : Int
 dx : Int
 dy : Int
structure Ol where
 cs : List (List Pn)
 ps : List Pa
def Pn.none : Pn := ⟨0, 0, false⟩
def Pa.none : Pa := ⟨0, 0, 0⟩
def Ol.none : Ol := ⟨[], []⟩
def pnF (p : Pn) : Bool := fdB p.x && fdB p.y
def paF (p : Pa) : Bool := decide (0 ≤ p.g ∧ p.g ≤ 65535) && (fdB p.dx && fdB p.dy)
def foB (o : Ol) : Bool :=
 !(decide (0 < o.cs.length) && decide (0 < o.ps.length)) && (decide (o.cs.length ≤ 10) && (decide (o.ps.length ≤ 6) && (o.cs.all (fun c => decide (0 < c.length)) && (decide (o.cs.flatten.length ≤ 80) && (o.cs.flatten.all pnF && o.ps.all paF)))))
def FoP (o : Ol) : Prop := (o.cs.length = 0 ∨ o.ps.length = 0) ∧ o.cs.length ≤ 10 ∧ o.ps.length ≤ 6 ∧ (∀ c ∈ o.cs, 0 < c.length) ∧ o.cs.flatten.length ≤ 80 ∧ (∀ p ∈ o.cs.flatten, (-32768 ≤ p.x ∧ p.x ≤ 32767) ∧ (-32768 ≤ p.y ∧ p.y ≤ 32767)) ∧ (∀ p ∈ o.ps, (0 ≤ p.g ∧ p.g ≤ 65535) ∧ (-32768 ≤ p.dx ∧ p.dx ≤ 32767) ∧ (-32768 ≤ p.dy ∧ p.dy ≤ 32767))
theorem foB_iff {o : Ol} : foB o = true ↔ FoP o := by
 unfold foB FoP pnF paF
 simp only [Bool.and_eq_true, Bool.not_eq_true', Bool.and_eq_false_iff, decide_eq_true_iff, decide_eq_false_iff_not, List.all_eq_true, fdB_iff]
 constructor
 · rintro ⟨h, r⟩
   exact ⟨by omega, r⟩
 · rintro ⟨h, r⟩
   exact ⟨by omega, r⟩
def endF (n : Int) : List (List Pn) → List Int
 | [] => []
 | c :: t => (n + (c.length : Int) - 1) :: endF (n + (c.length : Int)) t
theorem endF_len (n : Int) (l : List (List Pn)) : (endF n l).length = l.length := by
 induction l generalizing n with
 | nil => rfl
 | cons c t ih => rw [endF, List.length_cons, ih, List.length_cons]
theorem endF_append (n : Int) (l m : List (List Pn)) : endF n (l ++ m) = endF n l ++ endF (n + (l.flatten.length : Int)) m := by
 induction l generalizing n with
 | nil => simp [endF]
 | cons c t ih =>
  rw [List.cons_append, endF, endF, ih, List.flatten_cons, List.length_append, List.cons_append, Int.natCast_add]
  congr 2
  congr 1
  omega
def hd2 : List Nat → Nat
 | x :: y :: _ => 256 * x + y
 | _ => 0
end Go.Proofs.YtngmcghmniakeaaGreat
