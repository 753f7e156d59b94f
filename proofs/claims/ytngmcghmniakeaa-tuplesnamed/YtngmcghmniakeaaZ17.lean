/-
  Files of tables: what is read of a file (plain mathematics).
  Two bytes and the number that they are (plain mathematics).
  Packed lists: runs, how they are packed, how they are read (plain mathematics).
  Outlines: whether they are formed, their points, ends and box; their bytes (plain mathematics).
-/
import Derived.Test.YtngmcghmniakeaaZ16
import Derived.Test.YtngmcghmniakeaaZ9
namespace Go.Proofs.Ytngmcghmniakeaa
set_option linter.unusedSimpArgs false
set_option linter.unusedVariables false

/-- What lies behind a head. -/
theorem part_at {b A X Z : List Nat} {q n : Nat} (hb : b = A ++ (X ++ Z)) (hq : A.length = q) (hn : X.length = n) : (b.drop q).take n = X := by
  subst hb
  subst hq
  subst hn
  rw [List.drop_left, List.take_left]
theorem inB_at {b A X Z : List Nat} {q n : Nat} (hb : b = A ++ (X ++ Z)) (hq : A.length = q) (hn : X.length = n) : inB b.length (q : Int) (n : Int) = true := by
  have : b.length = q + n + Z.length := by rw [hb]; simp [hq, hn]; omega
  simp [inB]
  omega
theorem nmV_at {b A X Z : List Nat} {q n : Nat} (hb : b = A ++ (X ++ Z)) (hq : A.length = q) (hn : X.length = n) : nmV b (q : Int) n = V8 X := by
  rw [nmV, inB_at hb hq hn, if_pos rfl, Int.toNat_natCast, part_at hb hq hn]
theorem cutV_at {b A X Z : List Nat} {q n : Nat} (hb : b = A ++ (X ++ Z)) (hq : A.length = q) (hn : X.length = n) : cutV b (q : Int) (n : Int) = X := by
  rw [cutV_yes (inB_at hb hq hn), Int.toNat_natCast, Int.toNat_natCast, part_at hb hq hn]
theorem V8_be4 {n : Nat} (h : n < 4294967296) : V8 (be4 (n : Int)) = n := by
  simp only [be4, V8, List.foldl_cons, List.foldl_nil]
  omega
theorem V8_be2 {n : Nat} (h : n < 65536) : V8 (be2 (n : Int)) = n := by
  simp only [be2, V8, List.foldl_cons, List.foldl_nil]
  omega

/-- The tables that a directory tells, n of them. -/
def tabAt (b : List Nat) (i : Nat) : Tb := ⟨tgV b ((12 + 16 * i : Nat) : Int), cutV b ((nmV b ((20 + 16 * i : Nat) : Int) 4 : Nat) : Int) ((nmV b ((24 + 16 * i : Nat) : Int) 4 : Nat) : Int)⟩
def cntB (b : List Nat) : Nat := min (nmV b 4 2) 33
def dirB (b : List Nat) : List Tb := (List.range (cntB b)).map (tabAt b)

/-- A file's parts around one table. -/
theorem file_split (l1 : List Tb) (t : Tb) (l2 : List Tb) (h : ∀ s ∈ l1 ++ t :: l2, (sb s.tx).length = 4) :
    ∃ D E : List Nat, fileR (l1 ++ t :: l2) = hdr (l1 ++ t :: l2).length ++ (D ++ (dirE t (12 + 16 * (l1 ++ t :: l2).length + (bods l1).length) ++ (E ++ (bods l1 ++ (fil t.bs ++ bods l2))))) ∧ D.length = 16 * l1.length ∧ E.length = 16 * l2.length := by
  refine ⟨dirs l1 (12 + 16 * (l1 ++ t :: l2).length), dirs l2 (12 + 16 * (l1 ++ t :: l2).length + (bods l1).length + (fil t.bs).length), ?_, dirs_len _ (fun s hs => h s (by simp [hs])), dirs_len _ (fun s hs => h s (by simp [hs]))⟩
  rw [fileR, dirs_append, bods_append, dirs, bods]
  simp only [List.append_assoc]

theorem tab_file (l1 : List Tb) (t : Tb) (l2 : List Tb) (h : ∀ s ∈ l1 ++ t :: l2, gd (sb s.tx) = true) (hl : (fileR (l1 ++ t :: l2)).length < 4294967296) :
    tabAt (fileR (l1 ++ t :: l2)) l1.length = t := by
  have h4 : ∀ s ∈ l1 ++ t :: l2, (sb s.tx).length = 4 := fun s hs => gd_len (h s hs)
  obtain ⟨D, E, hf, hD, hE⟩ := file_split l1 t l2 h4
  have hlen := fileR_len h4
  have hbl : (bods (l1 ++ t :: l2)).length = (bods l1).length + (t.bs.length + padN t.bs.length 4 + (bods l2).length) := by rw [bods_append, bods]; simp only [List.length_append, fil_len]
  rw [hbl] at hlen
  generalize fileR (l1 ++ t :: l2) = b at *
  have hn : (l1 ++ t :: l2).length = l1.length + 1 + l2.length := by simp; omega
  generalize (l1 ++ t :: l2).length = n at *
  have htag : gd (sb t.tx) = true := h t (by simp)
  have ht4 := gd_len htag
  have hat : 12 + 16 * n + (bods l1).length < 4294967296 := by omega
  have hsz : t.bs.length < 4294967296 := by omega
  -- the tag
  have e0 : cutV b ((12 + 16 * l1.length : Nat) : Int) ((4 : Nat) : Int) = sb t.tx := cutV_at (A := hdr n ++ D) (X := sb t.tx) (Z := be4 (sm t.bs : Nat) ++ (be4 ((12 + 16 * n + (bods l1).length : Nat) : Int) ++ be4 (t.bs.length : Nat)) ++ (E ++ (bods l1 ++ (fil t.bs ++ bods l2)))) (by rw [hf, dirE]; simp only [List.append_assoc]) (by simp [hdr_len, hD]) ht4
  have i0 : inB b.length ((12 + 16 * l1.length : Nat) : Int) ((4 : Nat) : Int) = true := inB_at (A := hdr n ++ D) (X := sb t.tx) (Z := be4 (sm t.bs : Nat) ++ (be4 ((12 + 16 * n + (bods l1).length : Nat) : Int) ++ be4 (t.bs.length : Nat)) ++ (E ++ (bods l1 ++ (fil t.bs ++ bods l2)))) (by rw [hf, dirE]; simp only [List.append_assoc]) (by simp [hdr_len, hD]) ht4
  have g0 : tgB b ((12 + 16 * l1.length : Nat) : Int) = true := by
    rw [tgB]
    have e0' : cutV b ((12 + 16 * l1.length : Nat) : Int) 4 = sb t.tx := e0
    have i0' : inB b.length ((12 + 16 * l1.length : Nat) : Int) 4 = true := i0
    rw [e0', i0', htag]
    rfl
  have v0 : tgV b ((12 + 16 * l1.length : Nat) : Int) = t.tx := by
    rw [tgV, g0, if_pos rfl]
    have e0' : cutV b ((12 + 16 * l1.length : Nat) : Int) 4 = sb t.tx := e0
    rw [e0', str8_sb]
  -- where, and how many
  have e1 : nmV b ((20 + 16 * l1.length : Nat) : Int) 4 = 12 + 16 * n + (bods l1).length := by
    rw [nmV_at (b := b) (q := 20 + 16 * l1.length) (n := 4) (A := hdr n ++ D ++ sb t.tx ++ be4 (sm t.bs : Nat)) (X := be4 ((12 + 16 * n + (bods l1).length : Nat) : Int)) (Z := be4 (t.bs.length : Nat) ++ (E ++ (bods l1 ++ (fil t.bs ++ bods l2)))) (by rw [hf, dirE]; simp only [List.append_assoc]) (by simp [hdr_len, hD, ht4, be4]; omega) rfl]
    exact V8_be4 hat
  have e2 : nmV b ((24 + 16 * l1.length : Nat) : Int) 4 = t.bs.length := by
    rw [nmV_at (b := b) (q := 24 + 16 * l1.length) (n := 4) (A := hdr n ++ D ++ sb t.tx ++ be4 (sm t.bs : Nat) ++ be4 ((12 + 16 * n + (bods l1).length : Nat) : Int)) (X := be4 (t.bs.length : Nat)) (Z := E ++ (bods l1 ++ (fil t.bs ++ bods l2))) (by rw [hf, dirE]; simp only [List.append_assoc]) (by simp [hdr_len, hD, ht4, be4]; omega) rfl]
    exact V8_be4 hsz
  have e3 : cutV b ((12 + 16 * n + (bods l1).length : Nat) : Int) ((t.bs.length : Nat) : Int) = t.bs :=
    cutV_at (A := hdr n ++ D ++ dirE t (12 + 16 * n + (bods l1).length) ++ E ++ bods l1) (X := t.bs) (Z := List.replicate (padN t.bs.length 4) 0 ++ bods l2) (by rw [hf]; simp only [fil, List.append_assoc]) (by simp [hdr_len, hD, hE, dirE_len ht4]; omega) rfl
  rw [tabAt, v0, e1, e2, e3]

theorem cnt_file {l : List Tb} (h : l.length ≤ 32) : cntB (fileR l) = l.length := by
  have e : nmV (fileR l) ((4 : Nat) : Int) 2 = l.length := by
    rw [nmV_at (b := fileR l) (q := 4) (n := 2) (A := be4 65536) (X := be2 l.length) (Z := (be2 ((16 * pw l.length : Nat) : Int) ++ (be2 ((lg l.length : Nat) : Int) ++ be2 ((16 * l.length - 16 * pw l.length : Nat) : Int))) ++ (dirs l (12 + 16 * l.length) ++ bods l)) (by rw [fileR, hdr]; simp only [List.append_assoc]) rfl rfl]
    exact V8_be2 (by omega)
  have e' : nmV (fileR l) 4 2 = l.length := e
  rw [cntB, e']
  omega
/-- What is read of a file is what it was made of. -/
theorem dir_file {l : List Tb} (h : Frm l) (hl : (fileR l).length < 4294967296) : dirB (fileR l) = l := by
  rw [dirB, cnt_file h.2.1]
  apply List.ext_getElem
  · simp
  · intro i h1 h2
    simp only [List.getElem_map, List.getElem_range]
    have e : l = l.take i ++ l[i] :: l.drop (i + 1) := by simp
    have hi : (l.take i).length = i := by simp; omega
    have := tab_file (l.take i) l[i] (l.drop (i + 1)) (by rw [← e]; exact fun s hs => (h.2.2.1 s hs).1) (by rw [← e]; exact hl)
    rw [hi, ← e] at this
    exact this

/-- Bytes are the file of the tables that their directory tells. -/
def Fil (b : List Nat) : Prop := Frm (dirB b) ∧ fileS (dirB b) = b
/-- What is packed is read as it was, rising. -/
theorem fil_of {l : List Tb} (h : Frm l) (hl : (fileS l).length < 4294967296) : dirB (fileS l) = srt l ∧ Fil (fileS l) := by
  have hs := h.srt
  have e := dir_file hs hl
  refine ⟨e, ?_⟩
  show Frm (dirB (fileS l)) ∧ fileS (dirB (fileS l)) = fileS l
  have e' : dirB (fileS l) = srt l := e
  rw [e']
  refine ⟨hs, ?_⟩
  rw [fileS, fileS, srt_of_ris (srt_ris h.2.2.2)]
theorem Fil.ris {b : List Nat} (h : Fil b) (hl : b.length < 4294967296) : Ris (dirB b) := by
  have e := (fil_of h.1 (by rw [h.2]; exact hl)).1
  rw [h.2] at e
  rw [e]
  exact srt_ris h.1.2.2.2
theorem Fil.mod {b : List Nat} (h : Fil b) : b.length % 4 = 0 := by
  rw [← h.2, fileS]
  exact fileR_mod (fun t ht => h.1.srt.tag ht)

/-- Two files with one directory, but for one byte behind it: there are none. -/
theorem bods_turned : ∀ (l m : List Tb) (j z : Nat), l.length = m.length → (∀ i, (l.getD i Tb.none).bs.length = (m.getD i Tb.none).bs.length) → (∀ i, sm (l.getD i Tb.none).bs = sm (m.getD i Tb.none).bs) →
    (∀ t ∈ l, Byt t.bs) → z < 256 → j < (bods l).length → z ≠ (bods l).getD j 0 → bods m = (bods l).set j z → False := by
  intro l
  induction l with
  | nil => intro m j z _ _ _ _ _ hj; simp [bods] at hj
  | cons t l ih =>
    intro m j z hlen hb hs hbyt hz hj hne he
    cases m with
    | nil => simp at hlen
    | cons u m =>
      have hb0 : t.bs.length = u.bs.length := hb 0
      have hs0 : sm t.bs = sm u.bs := hs 0
      have hbl : ∀ i, (l.getD i Tb.none).bs.length = (m.getD i Tb.none).bs.length := fun i => by have := hb (i + 1); simpa using this
      have hsl : ∀ i, sm (l.getD i Tb.none).bs = sm (m.getD i Tb.none).bs := fun i => by have := hs (i + 1); simpa using this
      have hfl : (fil t.bs).length = (fil u.bs).length := by rw [fil_len, fil_len, hb0]
      rw [bods, bods] at he
      rw [bods] at hj hne
      by_cases hjt : j < (fil t.bs).length
      · rw [List.set_append_left _ _ hjt] at he
        have e1 := (List.append_inj he (by simp [hfl])).1
        have h1 := sum4_set ((fil t.bs).length / 4) (fil t.bs) j z (len4 (fil_mod _)) (byt_fil (hbyt t (by simp))) hz hjt (by
          intro e
          apply hne
          rw [e]
          simp [List.getD, List.getElem?_append_left hjt])
        rw [← e1] at h1
        exact h1 hs0.symm
      · have hjt : (fil t.bs).length ≤ j := by omega
        rw [List.set_append_right _ _ hjt] at he
        have e1 := (List.append_inj he hfl.symm).2
        refine ih m (j - (fil t.bs).length) z (by simpa using hlen) hbl hsl (fun s hs => hbyt s (by simp [hs])) hz (by rw [List.length_append] at hj; omega) ?_ e1
        intro e
        apply hne
        rw [e]
        simp [List.getD, List.getElem?_append_right hjt]

end Go.Proofs.Ytngmcghmniakeaa

namespace Go.Proofs.Ytngmcghmniakeaa
set_option linter.unusedSimpArgs false
set_option linter.unusedVariables false

theorem be2L (z : Int) : (be2 z).length = 2 := rfl
theorem sx_be2 {z : Int} (h1 : -32768 ≤ z) (h2 : z ≤ 32767) : sx16 (V8 (be2 z)) = z := by
  simp only [be2, V8, List.foldl_cons, List.foldl_nil]
  unfold sx16
  split <;> omega
theorem be_sx2 {xs : List Nat} (h : Byt xs) (hl : xs.length = 2) : be2 (sx16 (V8 xs)) = xs := by
  match xs, hl with
  | [a, b], _ =>
    have ha := h a (by simp)
    have hb := h b (by simp)
    have e : V8 [a, b] = 256 * a + b := by simp only [V8, List.foldl_cons, List.foldl_nil]; omega
    have hz : ∃ k : Int, sx16 (V8 [a, b]) = ((256 * a + b : Nat) : Int) + 65536 * k := by
      rw [e, sx16]
      split
      · exact ⟨-1, by omega⟩
      · exact ⟨0, by omega⟩
    obtain ⟨k, hk⟩ := hz
    rw [hk]
    simp only [be2, List.cons.injEq, and_true]
    refine ⟨by omega, by omega⟩
theorem be_V8 {xs : List Nat} (h : Byt xs) (hl : xs.length = 2) : be2 ((V8 xs : Nat) : Int) = xs := by
  match xs, hl with
  | [a, b], _ =>
    have ha := h a (by simp)
    have hb := h b (by simp)
    have e : V8 [a, b] = 256 * a + b := by simp only [V8, List.foldl_cons, List.foldl_nil]; omega
    rw [e]
    simp only [be2, List.cons.injEq, and_true]
    refine ⟨by omega, by omega⟩

end Go.Proofs.Ytngmcghmniakeaa

namespace Go.Proofs.Ytngmcghmniakeaa
set_option linter.unusedSimpArgs false
set_option linter.unusedVariables false

/-- How many numbers the first run has. -/
def rn (c : Int → Nat) (M : Nat) : List Int → Nat
  | [] => 0
  | x :: t => min M (1 + (t.takeWhile (fun y => c y == c x)).length)
theorem rn_pos {c : Int → Nat} {M : Nat} (hM : 0 < M) {l : List Int} (hl : l ≠ []) : 1 ≤ rn c M l := by
  cases l with
  | nil => exact absurd rfl hl
  | cons x t => rw [rn]; omega
theorem takeWhile_le {α : Type} (p : α → Bool) (l : List α) : (l.takeWhile p).length ≤ l.length := by
  induction l with
  | nil => simp
  | cons x t ih => rw [List.takeWhile_cons]; split <;> simp; omega
theorem rn_le {c : Int → Nat} {M : Nat} (l : List Int) : rn c M l ≤ l.length ∧ rn c M l ≤ M := by
  cases l with
  | nil => exact ⟨Nat.le_refl _, Nat.zero_le _⟩
  | cons x t =>
    have := takeWhile_le (fun y => c y == c x) t
    rw [rn, List.length_cons]
    omega
theorem takeWhile_get {p : Int → Bool} : ∀ (l : List Int) (j : Nat), j < (l.takeWhile p).length → p (l.getD j 0) = true := by
  intro l
  induction l with
  | nil => intro j hj; simp at hj
  | cons x t ih =>
    intro j hj
    rw [List.takeWhile_cons] at hj
    split at hj
    · rename_i hx
      cases j with
      | zero => simpa using hx
      | succ j => exact ih j (by simpa using hj)
    · simp at hj
/-- All numbers of a run are of one kind. -/
theorem rn_same {c : Int → Nat} {M : Nat} {l : List Int} {j : Nat} (hj : j < rn c M l) : c (l.getD j 0) = c (l.getD 0 0) := by
  cases l with
  | nil => simp [rn] at hj
  | cons x t =>
    rw [rn] at hj
    cases j with
    | zero => rfl
    | succ j =>
      have := takeWhile_get (p := fun y => c y == c x) t j (by omega)
      simpa using this
theorem takeWhile_at {p : Int → Bool} : ∀ {l : List Int} {k : Nat}, (∀ j, j < k → p (l.getD j 0) = true) → k ≤ l.length → (k = l.length ∨ p (l.getD k 0) = false) → (l.takeWhile p).length = k := by
  intro l
  induction l with
  | nil => intro k _ hk _; simp at hk; simp [hk]
  | cons x t ih =>
    intro k h1 hk h2
    cases k with
    | zero =>
      rcases h2 with h2 | h2
      · simp at h2
      · rw [List.takeWhile_cons, if_neg (by simpa using h2)]
        rfl
    | succ k =>
      have hx : p x = true := h1 0 (by omega)
      rw [List.takeWhile_cons, if_pos hx, List.length_cons, ih (k := k) (fun j hj => h1 (j + 1) (by omega)) (by simpa using hk) (by simpa using h2)]
theorem takeWhile_ge {p : Int → Bool} : ∀ {l : List Int} {k : Nat}, (∀ j, j < k → p (l.getD j 0) = true) → k ≤ l.length → k ≤ (l.takeWhile p).length := by
  intro l
  induction l with
  | nil => intro k _ hk; simpa using hk
  | cons x t ih =>
    intro k h1 hk
    cases k with
    | zero => exact Nat.zero_le _
    | succ k =>
      have hx : p x = true := h1 0 (by omega)
      rw [List.takeWhile_cons, if_pos hx, List.length_cons]
      have := ih (k := k) (fun j hj => h1 (j + 1) (by omega)) (by simpa using hk)
      omega
/-- A run is as long as may be: as a loop finds it. -/
theorem rn_eq {c : Int → Nat} {M : Nat} {l : List Int} {k : Nat} (h0 : 1 ≤ k) (h1 : k ≤ M) (h2 : k ≤ l.length) (h3 : ∀ j, j < k → c (l.getD j 0) = c (l.getD 0 0)) (h4 : k = M ∨ k = l.length ∨ c (l.getD k 0) ≠ c (l.getD 0 0)) : rn c M l = k := by
  cases l with
  | nil => simp at h2; omega
  | cons x t =>
    obtain ⟨k, rfl⟩ : ∃ m, k = m + 1 := ⟨k - 1, by omega⟩
    have a1 : ∀ j, j < k → (fun y => c y == c x) (t.getD j 0) = true := fun j hj => by
      have := h3 (j + 1) (by omega)
      simpa using this
    have a2 : k ≤ t.length := by simpa using h2
    have a3 := takeWhile_ge (p := fun y => c y == c x) a1 a2
    rw [rn]
    rcases h4 with h4 | h4 | h4
    · omega
    · rw [takeWhile_at (p := fun y => c y == c x) a1 a2 (.inl (by simpa using h4))]; omega
    · rw [takeWhile_at (p := fun y => c y == c x) a1 a2 (.inr (by simpa using h4))]; omega

/-- A way of packing: the kind of a number, the longest run, how far apart kinds are in the head, the bytes of a number of a kind. -/
structure Pk where
  c : Int → Nat
  M : Nat
  en : Nat → Int → List Nat
def pkF (P : Pk) : Nat → List Int → List Nat
  | 0, _ => []
  | _ + 1, [] => []
  | n + 1, x :: t => [P.M * P.c x + rn P.c P.M (x :: t) - 1] ++ (((x :: t).take (rn P.c P.M (x :: t))).flatMap (P.en (P.c x)) ++ pkF P n ((x :: t).drop (rn P.c P.M (x :: t))))
def pk (P : Pk) (l : List Int) : List Nat := pkF P l.length l
theorem pkF_nil (P : Pk) (n : Nat) : pkF P n [] = [] := by cases n <;> rfl
theorem pkF_fuel (P : Pk) (hM : 0 < P.M) : ∀ (n : Nat) (l : List Int), l.length ≤ n → pkF P n l = pk P l := by
  intro n
  induction n using Nat.strongRecOn with
  | ind n ih =>
    intro l hl
    cases l with
    | nil => rw [pkF_nil, pk, pkF_nil]
    | cons x t =>
      obtain ⟨n, rfl⟩ : ∃ m, n = m + 1 := ⟨n - 1, by simp at hl; omega⟩
      have h1 := rn_pos (c := P.c) hM (l := x :: t) (by simp)
      have hd : ((x :: t).drop (rn P.c P.M (x :: t))).length ≤ t.length := by rw [List.length_drop, List.length_cons]; omega
      have ht : t.length ≤ n := by simpa using hl
      rw [pk, List.length_cons, pkF, pkF, ih n (by omega) _ (by omega)]
      by_cases htn : t.length < n + 1
      · rw [ih t.length (by omega) _ hd]
      · omega
theorem pk_nil (P : Pk) : pk P [] = [] := rfl
theorem pk_cons (P : Pk) (hM : 0 < P.M) {l : List Int} (hl : l ≠ []) :
    pk P l = [P.M * P.c (l.getD 0 0) + rn P.c P.M l - 1] ++ ((l.take (rn P.c P.M l)).flatMap (P.en (P.c (l.getD 0 0))) ++ pk P (l.drop (rn P.c P.M l))) := by
  cases l with
  | nil => exact absurd rfl hl
  | cons x t =>
    have h1 := rn_pos (c := P.c) hM (l := x :: t) (by simp)
    have hd : ((x :: t).drop (rn P.c P.M (x :: t))).length ≤ t.length := by rw [List.length_drop, List.length_cons]; omega
    conv => lhs; rw [pk, List.length_cons, pkF, pkF_fuel P hM _ _ hd]
    rfl

/-- A way of reading: what a head says (its kind, how many numbers), how many bytes a number of a kind takes, its number. -/
structure Rp where
  M : Nat
  top : Nat
  sz : Nat → Nat
  vl : List Nat → Nat → Nat → Int
/-- The numbers of a run. -/
def runV (R : Rp) (b : List Nat) (kd at_ k : Nat) : List Int := (List.range k).map (fun i => R.vl b kd (at_ + i * R.sz kd))
theorem runV_len (R : Rp) (b : List Nat) (kd at_ k : Nat) : (runV R b kd at_ k).length = k := by simp [runV]
theorem runV_succ (R : Rp) (b : List Nat) (kd at_ k : Nat) : runV R b kd at_ (k + 1) = runV R b kd at_ k ++ [R.vl b kd (at_ + k * R.sz kd)] := by simp [runV, List.range_succ]
/-- Whether a run is there, of at most so many numbers. -/
def hdB (R : Rp) (b : List Nat) (at_ n : Nat) : Bool :=
  decide (at_ + 1 ≤ b.length ∧ nmV b (at_ : Int) 1 < R.top ∧ nmV b (at_ : Int) 1 % R.M + 1 ≤ n ∧ at_ + 1 + (nmV b (at_ : Int) 1 % R.M + 1) * R.sz (nmV b (at_ : Int) 1 / R.M) ≤ b.length)
def rdF (R : Rp) (b : List Nat) : Nat → Nat → Nat → Option (List Int × Nat)
  | _, at_, 0 => some ([], at_)
  | 0, _, _ + 1 => none
  | f + 1, at_, n + 1 => if hdB R b at_ (n + 1) then
      (match rdF R b f (at_ + 1 + (nmV b (at_ : Int) 1 % R.M + 1) * R.sz (nmV b (at_ : Int) 1 / R.M)) (n + 1 - (nmV b (at_ : Int) 1 % R.M + 1)) with
      | some (l, e) => some (runV R b (nmV b (at_ : Int) 1 / R.M) (at_ + 1) (nmV b (at_ : Int) 1 % R.M + 1) ++ l, e)
      | none => none) else none
theorem rdF_zero (R : Rp) (b : List Nat) (f at_ : Nat) : rdF R b f at_ 0 = some ([], at_) := by cases f <;> rfl
theorem rdF_fuel (R : Rp) (b : List Nat) : ∀ (f g at_ n : Nat), n ≤ f → n ≤ g → rdF R b f at_ n = rdF R b g at_ n := by
  intro f
  induction f with
  | zero =>
    intro g at_ n hf _
    obtain rfl : n = 0 := Nat.le_zero.1 hf
    rw [rdF_zero, rdF_zero]
  | succ f ih =>
    intro g at_ n hf hg
    cases n with
    | zero => rw [rdF_zero, rdF_zero]
    | succ n =>
      obtain ⟨g, rfl⟩ : ∃ m, g = m + 1 := ⟨g - 1, by omega⟩
      rw [rdF, rdF, ih g _ _ (by omega) (by omega)]
theorem rdF_len (R : Rp) (b : List Nat) : ∀ (f at_ n : Nat) (l : List Int) (e : Nat), rdF R b f at_ n = some (l, e) → l.length = n ∧ at_ ≤ e ∧ (at_ ≤ b.length → e ≤ b.length) := by
  intro f
  induction f with
  | zero =>
    intro at_ n l e h
    cases n with
    | zero => rw [rdF_zero] at h; cases h; exact ⟨rfl, Nat.le_refl _, fun h => h⟩
    | succ n => cases h
  | succ f ih =>
    intro at_ n l e h
    cases n with
    | zero => rw [rdF_zero] at h; cases h; exact ⟨rfl, Nat.le_refl _, fun h => h⟩
    | succ n =>
      rw [rdF] at h
      split at h
      · rename_i hh
        have hh' := of_decide_eq_true hh
        split at h
        · rename_i l' e' hr
          cases h
          obtain ⟨h1, h2, h3⟩ := ih _ _ _ _ hr
          refine ⟨?_, by omega, fun _ => h3 hh'.2.2.2⟩
          rw [List.length_append, runV_len, h1]
          omega
        · cases h
      · cases h
/-- What is read stays, whatever stands behind. -/
theorem nmV_more {b Z : List Nat} {p n : Nat} (h : p + n ≤ b.length) : nmV (b ++ Z) (p : Int) n = nmV b (p : Int) n := by
  have e1 : inB (b ++ Z).length (p : Int) (n : Int) = true := by simp only [inB, decide_eq_true_iff, List.length_append]; omega
  have e2 : inB b.length (p : Int) (n : Int) = true := by simp only [inB, decide_eq_true_iff]; omega
  rw [nmV, nmV, if_pos e1, if_pos e2, Int.toNat_natCast, List.drop_append_of_le_length (by omega), List.take_append_of_le_length (by rw [List.length_drop]; omega)]
theorem rdF_more (R : Rp) (hv : ∀ b Z kd p, p + R.sz kd ≤ b.length → R.vl (b ++ Z) kd p = R.vl b kd p) (b Z : List Nat) : ∀ (f at_ n : Nat) (l : List Int) (e : Nat), rdF R b f at_ n = some (l, e) → rdF R (b ++ Z) f at_ n = some (l, e) := by
  intro f
  induction f with
  | zero =>
    intro at_ n l e h
    cases n with
    | zero => rw [rdF_zero] at h ⊢; exact h
    | succ n => cases h
  | succ f ih =>
    intro at_ n l e h
    cases n with
    | zero => rw [rdF_zero] at h ⊢; exact h
    | succ n =>
      rw [rdF] at h
      split at h
      · rename_i hh
        have hh' := of_decide_eq_true hh
        have eh : nmV (b ++ Z) (at_ : Int) 1 = nmV b (at_ : Int) 1 := nmV_more hh'.1
        have hb : hdB R (b ++ Z) at_ (n + 1) = true := by
          rw [hdB, eh]
          exact decide_eq_true ⟨by rw [List.length_append]; omega, hh'.2.1, hh'.2.2.1, by rw [List.length_append]; omega⟩
        split at h
        · rename_i l' e' hr
          cases h
          rw [rdF, if_pos hb, eh, ih _ _ _ _ hr]
          dsimp only
          have er : runV R (b ++ Z) (nmV b (at_ : Int) 1 / R.M) (at_ + 1) (nmV b (at_ : Int) 1 % R.M + 1) = runV R b (nmV b (at_ : Int) 1 / R.M) (at_ + 1) (nmV b (at_ : Int) 1 % R.M + 1) := by
            unfold runV
            refine List.map_congr_left fun i hi => ?_
            have hi' : i < nmV b (at_ : Int) 1 % R.M + 1 := by simpa using hi
            refine hv _ _ _ _ ?_
            have h1 : (i + 1) * R.sz (nmV b (at_ : Int) 1 / R.M) ≤ (nmV b (at_ : Int) 1 % R.M + 1) * R.sz (nmV b (at_ : Int) 1 / R.M) := Nat.mul_le_mul_right _ hi'
            rw [Nat.add_mul, Nat.one_mul] at h1
            have := hh'.2.2.2
            omega
          rw [er]
        · cases h
      · cases h
/-- Bytes that lack one of what is read are refused. -/
theorem rdF_cut (R : Rp) (hv : ∀ b Z kd p, p + R.sz kd ≤ b.length → R.vl (b ++ Z) kd p = R.vl b kd p) {b : List Nat} {f at_ n : Nat} {l : List Int} (h : rdF R b f at_ n = some (l, b.length)) {j : Nat} (hj : j < b.length) (hat : at_ ≤ j) : rdF R (b.take j) f at_ n = none := by
  cases hr : rdF R (b.take j) f at_ n with
  | none => rfl
  | some p =>
    obtain ⟨l', e⟩ := p
    have h1 := rdF_more R hv (b.take j) (b.drop j) f at_ n l' e hr
    rw [List.take_append_drop, h] at h1
    have h2 := (rdF_len R _ f at_ n l' e hr).2.2 (by rw [List.length_take]; omega)
    rw [List.length_take] at h2
    cases h1
    omega

end Go.Proofs.Ytngmcghmniakeaa

namespace Go.Proofs.Ytngmcghmniakeaa
set_option linter.unusedSimpArgs false
set_option linter.unusedVariables false

structure Pn where
  x : Int
  y : Int
  on : Bool
structure Pa where
  g : Int
  dx : Int
  dy : Int
structure Ol where
  cs : List (List Pn)
  ps : List Pa
def Pn.none : Pn := ⟨0, 0, false⟩
def Pa.none : Pa := ⟨0, 0, 0⟩
def Ol.none : Ol := ⟨[], []⟩
def pnF (p : Pn) : Bool := fdB p.x && fdB p.y
def paF (p : Pa) : Bool := decide (0 ≤ p.g ∧ p.g ≤ 65535) && (fdB p.dx && fdB p.dy)
/-- Formed. -/
def foB (o : Ol) : Bool :=
  !(decide (0 < o.cs.length) && decide (0 < o.ps.length)) && (decide (o.cs.length ≤ 10) && (decide (o.ps.length ≤ 6) && (o.cs.all (fun c => decide (0 < c.length)) && (decide (o.cs.flatten.length ≤ 80) && (o.cs.flatten.all pnF && o.ps.all paF)))))
def FoP (o : Ol) : Prop := (o.cs.length = 0 ∨ o.ps.length = 0) ∧ o.cs.length ≤ 10 ∧ o.ps.length ≤ 6 ∧ (∀ c ∈ o.cs, 0 < c.length) ∧ o.cs.flatten.length ≤ 80 ∧ (∀ p ∈ o.cs.flatten, (-32768 ≤ p.x ∧ p.x ≤ 32767) ∧ (-32768 ≤ p.y ∧ p.y ≤ 32767)) ∧ (∀ p ∈ o.ps, (0 ≤ p.g ∧ p.g ≤ 65535) ∧ (-32768 ≤ p.dx ∧ p.dx ≤ 32767) ∧ (-32768 ≤ p.dy ∧ p.dy ≤ 32767))
theorem foB_iff {o : Ol} : foB o = true ↔ FoP o := by
  unfold foB FoP pnF paF
  simp only [Bool.and_eq_true, Bool.not_eq_true', Bool.and_eq_false_iff, decide_eq_true_iff, decide_eq_false_iff_not, List.all_eq_true, fdB_iff]
  constructor
  · rintro ⟨h, r⟩
    exact ⟨by omega, r⟩
  · rintro ⟨h, r⟩
    exact ⟨by omega, r⟩
/-- Where contours end. -/
def endF (n : Int) : List (List Pn) → List Int
  | [] => []
  | c :: t => (n + (c.length : Int) - 1) :: endF (n + (c.length : Int)) t
theorem endF_len (n : Int) (l : List (List Pn)) : (endF n l).length = l.length := by
  induction l generalizing n with
  | nil => rfl
  | cons c t ih => rw [endF, List.length_cons, ih, List.length_cons]
theorem endF_append (n : Int) (l m : List (List Pn)) : endF n (l ++ m) = endF n l ++ endF (n + (l.flatten.length : Int)) m := by
  induction l generalizing n with
  | nil => simp [endF]
  | cons c t ih =>
    rw [List.cons_append, endF, endF, ih, List.flatten_cons, List.length_append, List.cons_append, Int.natCast_add]
    congr 2
    congr 1
    omega
/-- The box of points. -/
def bxS (b : Int × Int × Int × Int) (q : Pn) : Int × Int × Int × Int := (min b.1 q.x, min b.2.1 q.y, max b.2.2.1 q.x, max b.2.2.2 q.y)
def bxO : List Pn → Int × Int × Int × Int
  | [] => (0, 0, 0, 0)
  | p :: t => t.foldl bxS (p.x, p.y, p.x, p.y)
theorem bxO_snoc {l : List Pn} (hl : l ≠ []) (q : Pn) : bxO (l ++ [q]) = bxS (bxO l) q := by
  cases l with
  | nil => exact absurd rfl hl
  | cons p t => rw [List.cons_append, bxO, bxO, List.foldl_append]; rfl
theorem bxO_one (q : Pn) : bxO [q] = (q.x, q.y, q.x, q.y) := rfl
def mvP (u v : Int) (p : Pn) : Pn := ⟨p.x + u, p.y + v, p.on⟩
theorem bxF_mv (u v : Int) : ∀ (l : List Pn) (b : Int × Int × Int × Int), (l.map (mvP u v)).foldl bxS (b.1 + u, b.2.1 + v, b.2.2.1 + u, b.2.2.2 + v) = ((l.foldl bxS b).1 + u, (l.foldl bxS b).2.1 + v, (l.foldl bxS b).2.2.1 + u, (l.foldl bxS b).2.2.2 + v) := by
  intro l
  induction l with
  | nil => intro b; rfl
  | cons p t ih =>
    intro b
    rw [List.map_cons, List.foldl_cons, List.foldl_cons, ← ih (bxS b p)]
    congr 1
    unfold bxS mvP
    dsimp only
    refine Prod.ext ?_ (Prod.ext ?_ (Prod.ext ?_ ?_)) <;> dsimp only <;> omega
theorem bxO_mv (u v : Int) {l : List Pn} (hl : l ≠ []) : bxO (l.map (mvP u v)) = ((bxO l).1 + u, (bxO l).2.1 + v, (bxO l).2.2.1 + u, (bxO l).2.2.2 + v) := by
  cases l with
  | nil => exact absurd rfl hl
  | cons p t => exact bxF_mv u v t (p.x, p.y, p.x, p.y)

/-- The steps from point to point. -/
def difs (a b : Int) : List Pn → List (Int × Int × Bool)
  | [] => []
  | p :: t => (p.x - a, p.y - b, p.on) :: difs p.x p.y t
theorem difs_len (a b : Int) (l : List Pn) : (difs a b l).length = l.length := by
  induction l generalizing a b with
  | nil => rfl
  | cons p t ih => rw [difs, List.length_cons, ih, List.length_cons]
theorem difs_get : ∀ (l : List Pn) (a b : Int) (i : Nat), i < l.length → (difs a b l).getD i (0, 0, false) = ((l.getD i Pn.none).x - (if i = 0 then a else (l.getD (i - 1) Pn.none).x), (l.getD i Pn.none).y - (if i = 0 then b else (l.getD (i - 1) Pn.none).y), (l.getD i Pn.none).on) := by
  intro l
  induction l with
  | nil => intro a b i hi; simp at hi
  | cons p t ih =>
    intro a b i hi
    cases i with
    | zero => rfl
    | succ i =>
      rw [difs, List.getD_cons_succ, ih p.x p.y i (by simpa using hi)]
      cases i with
      | zero => simp
      | succ i => simp
def axF (d : Int) (sh sm : Nat) : Nat := if d = 0 then sm else if 0 < d ∧ d < 256 then sh + sm else if d < 0 ∧ -256 < d then sh else 0
def axB (d : Int) : List Nat := if d = 0 then [] else if 0 < d ∧ d < 256 then [d.toNat] else if d < 0 ∧ -256 < d then [(-d).toNat] else be2 d
theorem ax_cases (d : Int) : (d = 0) ∨ (0 < d ∧ d < 256) ∨ (d < 0 ∧ -256 < d) ∨ (d ≤ -256 ∨ 256 ≤ d) := by omega
theorem axB_len (d : Int) : (axB d).length ≤ 2 := by unfold axB be2; split <;> (try split) <;> (try split) <;> simp
theorem byt_axB (d : Int) : Byt (axB d) := by
  unfold axB
  split
  · exact Byt.nil
  · split
    · rename_i h; intro x hx; rw [List.mem_singleton.1 hx]; omega
    · split
      · rename_i h; intro x hx; rw [List.mem_singleton.1 hx]; omega
      · exact byt_be2 _
def flg (t : Int × Int × Bool) : Nat := axF t.1 2 16 + axF t.2.1 4 32 + (if t.2.2 then 1 else 0)
/-- A flag that is written: bits 1, 2, 4, 16, 32. -/
theorem flg_bits (t : Int × Int × Bool) : flg t < 64 ∧ flg t / 8 % 2 = 0 ∧ flg t % 2 = (if t.2.2 then 1 else 0) ∧ (flg t / 2 % 2 = 1 ↔ (t.1 ≠ 0 ∧ -256 < t.1 ∧ t.1 < 256)) ∧ (flg t / 16 % 2 = 1 ↔ (0 ≤ t.1 ∧ t.1 < 256)) ∧ (flg t / 4 % 2 = 1 ↔ (t.2.1 ≠ 0 ∧ -256 < t.2.1 ∧ t.2.1 < 256)) ∧ (flg t / 32 % 2 = 1 ↔ (0 ≤ t.2.1 ∧ t.2.1 < 256)) := by
  obtain ⟨d, e, c⟩ := t
  unfold flg axF
  dsimp only
  rcases ax_cases d with h | h | h | h <;> rcases ax_cases e with k | k | k | k <;> cases c <;> (repeat' split) <;> (try omega) <;> refine ⟨by omega, by omega, by omega, ?_, ?_, ?_, ?_⟩ <;> constructor <;> intro q <;> omega
/-- Runs of flags. -/
def rlF : Nat → List Int → List Nat
  | 0, _ => []
  | _ + 1, [] => []
  | n + 1, x :: t => (if rn Int.toNat 256 (x :: t) = 1 then [x.toNat] else [x.toNat + 8, rn Int.toNat 256 (x :: t) - 1]) ++ rlF n ((x :: t).drop (rn Int.toNat 256 (x :: t)))
def rl (l : List Int) : List Nat := rlF l.length l
theorem rlF_nil (n : Nat) : rlF n [] = [] := by cases n <;> rfl
theorem rl_nil : rl [] = [] := rfl
theorem rlF_fuel : ∀ (n : Nat) (l : List Int), l.length ≤ n → rlF n l = rl l := by
  intro n
  induction n using Nat.strongRecOn with
  | ind n ih =>
    intro l hl
    cases l with
    | nil => rw [rlF_nil, rl_nil]
    | cons x t =>
      obtain ⟨n, rfl⟩ : ∃ m, n = m + 1 := ⟨n - 1, by simp at hl; omega⟩
      have h1 := rn_pos (c := Int.toNat) (M := 256) (by omega) (l := x :: t) (by simp)
      have hd : ((x :: t).drop (rn Int.toNat 256 (x :: t))).length ≤ t.length := by rw [List.length_drop, List.length_cons]; omega
      have ht : t.length ≤ n := by simpa using hl
      rw [rl, List.length_cons, rlF, rlF, ih n (by omega) _ (by omega)]
      by_cases htn : t.length < n + 1
      · rw [ih t.length (by omega) _ hd]
      · omega
theorem rl_cons {l : List Int} (hl : l ≠ []) : rl l = (if rn Int.toNat 256 l = 1 then [(l.getD 0 0).toNat] else [(l.getD 0 0).toNat + 8, rn Int.toNat 256 l - 1]) ++ rl (l.drop (rn Int.toNat 256 l)) := by
  cases l with
  | nil => exact absurd rfl hl
  | cons x t =>
    have h1 := rn_pos (c := Int.toNat) (M := 256) (by omega) (l := x :: t) (by simp)
    have hd : ((x :: t).drop (rn Int.toNat 256 (x :: t))).length ≤ t.length := by rw [List.length_drop, List.length_cons]; omega
    conv => lhs; rw [rl, List.length_cons, rlF, rlF_fuel _ _ hd]
    rfl
/-- The bytes of contours, and of parts. -/
def flL (l : List Pn) : List Int := (difs 0 0 l).map (fun t => (flg t : Int))
def coB (cs : List (List Pn)) : List Nat := be2 (cs.length : Int) ++ ((endF 0 cs).flatMap be2 ++ (rl (flL cs.flatten) ++ ((difs 0 0 cs.flatten).flatMap (fun t => axB t.1) ++ (difs 0 0 cs.flatten).flatMap (fun t => axB t.2.1))))
def paE (p : Pa) : List Nat := be2 p.g ++ (be2 p.dx ++ be2 p.dy)
def paB (ps : List Pa) : List Nat := [255, 255] ++ (be2 (ps.length : Int) ++ ps.flatMap paE)
/-- Whether all steps are fields. -/
def diB (l : List Pn) : Bool := (difs 0 0 l).all (fun t => fdB t.1 && fdB t.2.1)
def wrOE (o : Ol) : Int := if foB o then (if o.ps.length = 0 then (if diB o.cs.flatten then 0 else 4) else 0) else 1
def wrOB (o : Ol) : List Nat := if foB o then (if o.ps.length = 0 then (if diB o.cs.flatten then coB o.cs else []) else paB o.ps) else []

end Go.Proofs.Ytngmcghmniakeaa
