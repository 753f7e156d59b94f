/-
  Outlines: how bytes are read, and that what is written is read (plain mathematics).
-/
import Derived.Test.YtaejlopkdkaphaaZE4
namespace Go.Proofs.Ytaejlopkdkaphaa
set_option linter.unusedSimpArgs false
set_option linter.unusedVariables false

/-- The first byte, the first two; what lacks is 0. -/
def hd1 (s : List Nat) : Nat := s.headD 0
def hd2 : List Nat → Nat
  | x :: y :: _ => 256 * x + y
  | _ => 0
theorem nmV_hd1 (b : List Nat) (p : Nat) : nmV b (p : Int) 1 = hd1 (b.drop p) := by
  unfold nmV
  by_cases h : p + 1 ≤ b.length
  · rw [if_pos (by simp only [inB, decide_eq_true_iff]; omega), Int.toNat_natCast]
    have : 0 < (b.drop p).length := by rw [List.length_drop]; omega
    match hd : b.drop p, this with
    | x :: t, _ => simp [hd1, V8]
  · rw [if_neg (by simp only [inB, decide_eq_true_iff]; omega), List.drop_eq_nil_of_le (by omega)]
    rfl
theorem nmV_hd2 (b : List Nat) (p : Nat) : nmV b (p : Int) 2 = hd2 (b.drop p) := by
  unfold nmV
  by_cases h : p + 2 ≤ b.length
  · rw [if_pos (by simp only [inB, decide_eq_true_iff]; omega), Int.toNat_natCast]
    have : 1 < (b.drop p).length := by rw [List.length_drop]; omega
    match hd : b.drop p, this with
    | x :: y :: t, _ => simp [hd2, V8]
  · rw [if_neg (by simp only [inB, decide_eq_true_iff]; omega)]
    have : (b.drop p).length < 2 := by rw [List.length_drop]; omega
    match hd : b.drop p, this with
    | [], _ => rfl
    | [x], _ => rfl
theorem hd2_be2 (z : Int) (Z : List Nat) : hd2 (be2 z ++ Z) = V8 (be2 z) := by simp [be2, hd2, V8]
theorem drop_be2 (z : Int) (Z : List Nat) : (be2 z ++ Z).drop 2 = Z := rfl
theorem V8_be2i' {z : Int} (h1 : 0 ≤ z) (h2 : z ≤ 65535) : V8 (be2 z) = z.toNat := by
  simp only [be2, V8, List.foldl_cons, List.foldl_nil]
  omega
/-- Ends. -/
def rdE : Nat → List Nat → List Nat × List Nat
  | 0, s => ([], s)
  | n + 1, s => (hd2 s :: (rdE n (s.drop 2)).1, (rdE n (s.drop 2)).2)
theorem rdE_len (n : Nat) (s : List Nat) : (rdE n s).1.length = n := by
  induction n generalizing s with
  | zero => rfl
  | succ n ih => rw [rdE]; simp [ih]
theorem rdE_rest (n : Nat) (s : List Nat) : (rdE n s).2 = s.drop (2 * n) := by
  induction n generalizing s with
  | zero => rfl
  | succ n ih => rw [rdE]; dsimp only; rw [ih, List.drop_drop]; congr 1; omega
theorem rdE_get (n : Nat) (s : List Nat) (i : Nat) (hi : i < n) : (rdE n s).1.getD i 0 = hd2 (s.drop (2 * i)) := by
  induction n generalizing s i with
  | zero => omega
  | succ n ih =>
    rw [rdE]
    cases i with
    | zero => rfl
    | succ i => dsimp only; rw [List.getD_cons_succ, ih (s.drop 2) i (by omega), List.drop_drop]; congr 2; omega
theorem rdE_back : ∀ (es : List Int), (∀ e ∈ es, 0 ≤ e ∧ e ≤ 65535) → ∀ Z, rdE es.length (es.flatMap be2 ++ Z) = (es.map Int.toNat, Z) := by
  intro es
  induction es with
  | nil => intro _ Z; rfl
  | cons e t ih =>
    intro h Z
    have h0 := h e (by simp)
    rw [List.length_cons, rdE, List.flatMap_cons, List.append_assoc, hd2_be2, drop_be2, ih (fun x hx => h x (by simp [hx])), V8_be2i' h0.1 h0.2]
    rfl
/-- Flags: until there are as many as are wanted. -/
def rdG : Nat → Nat → List Nat → List Nat → List Nat × List Nat
  | 0, _, s, acc => (acc, s)
  | f + 1, n, s, acc => if acc.length < n then (if hd1 s / 8 % 2 = 1 then rdG f n (s.drop 2) (acc ++ List.replicate (hd1 (s.drop 1) + 1) (hd1 s)) else rdG f n (s.drop 1) (acc ++ [hd1 s])) else (acc, s)
theorem rdG_stop {f n : Nat} {s acc : List Nat} (h : n ≤ acc.length) : rdG f n s acc = (acc, s) := by
  cases f with
  | zero => rfl
  | succ f => rw [rdG, if_neg (by omega)]
theorem rdG_fuel : ∀ (f g n : Nat) (s acc : List Nat), n - acc.length ≤ f → n - acc.length ≤ g → rdG f n s acc = rdG g n s acc := by
  intro f
  induction f with
  | zero => intro g n s acc hf _; rw [rdG_stop (by omega), rdG_stop (by omega)]
  | succ f ih =>
    intro g n s acc hf hg
    by_cases hn : acc.length < n
    · obtain ⟨g, rfl⟩ : ∃ m, g = m + 1 := ⟨g - 1, by omega⟩
      rw [rdG, rdG, if_pos hn, if_pos hn]
      split
      · exact ih _ _ _ _ (by rw [List.length_append, List.length_replicate]; omega) (by rw [List.length_append, List.length_replicate]; omega)
      · exact ih _ _ _ _ (by rw [List.length_append, List.length_singleton]; omega) (by rw [List.length_append, List.length_singleton]; omega)
    · rw [rdG_stop (by omega), rdG_stop (by omega)]
/-- A flag that is read for one that is written. -/
def LikeF (a : Nat) (x : Int) : Prop := a = x.toNat ∨ a = x.toNat + 8
theorem rdG_back : ∀ (k : Nat) (l : List Int), l.length = k → (∀ x ∈ l, 0 ≤ x ∧ x < 64 ∧ x.toNat / 8 % 2 = 0) → ∀ (n : Nat) (acc Z : List Nat), acc.length + l.length = n →
    ∃ m : List Nat, rdG n n (rl l ++ Z) acc = (acc ++ m, Z) ∧ m.length = l.length ∧ ∀ i, i < l.length → LikeF (m.getD i 0) (l.getD i 0) := by
  intro k
  induction k using Nat.strongRecOn with
  | ind k ih =>
    intro l hk hl n acc Z hn
    by_cases h0 : l = []
    · subst h0
      exact ⟨[], by rw [rdG_stop (by simp at hn; omega)]; simp [rl_nil], rfl, fun i hi => by simp at hi⟩
    have hpos : 0 < l.length := List.length_pos_iff.2 h0
    obtain ⟨x, hx⟩ : ∃ x, l.getD 0 0 = x := ⟨_, rfl⟩
    have hxm : x ∈ l := by
      rw [← hx, List.getD_eq_getElem?_getD, List.getElem?_eq_getElem hpos]
      exact List.getElem_mem hpos
    obtain ⟨x1, x2, x3⟩ := hl x hxm
    obtain ⟨r, hr⟩ : ∃ r, rn Int.toNat 256 l = r := ⟨_, rfl⟩
    have r1 := rn_pos (c := Int.toNat) (M := 256) (by omega) h0
    obtain ⟨r2, r3⟩ := rn_le (c := Int.toNat) (M := 256) l
    rw [hr] at r1 r2 r3
    have hsame : ∀ j, j < r → l.getD j 0 = x := fun j hj => by
      have h1 := rn_same (c := Int.toNat) (M := 256) (l := l) (j := j) (by omega)
      rw [hx] at h1
      have h2 : l.getD j 0 ∈ l := by rw [List.getD_eq_getElem?_getD, List.getElem?_eq_getElem (by omega)]; exact List.getElem_mem _
      have := (hl _ h2).1
      omega
    have hdl : (l.drop r).length = l.length - r := List.length_drop
    rw [rl_cons h0, hr, hx]
    obtain ⟨n, rfl⟩ : ∃ m, n = m + 1 := ⟨n - 1, by omega⟩
    have fin : ∀ a : Nat, LikeF a x → (∃ m : List Nat, rdG n (n + 1) (rl (l.drop r) ++ Z) (acc ++ List.replicate r a) = (acc ++ List.replicate r a ++ m, Z) ∧ m.length = (l.drop r).length ∧ ∀ i, i < (l.drop r).length → LikeF (m.getD i 0) ((l.drop r).getD i 0)) →
        ∃ m : List Nat, rdG n (n + 1) (rl (l.drop r) ++ Z) (acc ++ List.replicate r a) = (acc ++ m, Z) ∧ m.length = l.length ∧ ∀ i, i < l.length → LikeF (m.getD i 0) (l.getD i 0) := by
      rintro a ha ⟨m, h1, h2, h3⟩
      refine ⟨List.replicate r a ++ m, by rw [h1, List.append_assoc], by rw [List.length_append, List.length_replicate, h2, hdl]; omega, fun i hi => ?_⟩
      by_cases hir : i < r
      · have e : (List.replicate r a ++ m).getD i 0 = a := by simp [List.getD, List.getElem?_append_left (show i < (List.replicate r a).length by simpa using hir), hir]
        rw [e, hsame i hir]
        exact ha
      · have e : (List.replicate r a ++ m).getD i 0 = m.getD (i - r) 0 := by simp [List.getD, List.getElem?_append_right (show (List.replicate r a).length ≤ i by simp; omega)]
        have e2 : (l.drop r).getD (i - r) 0 = l.getD i 0 := by simp [List.getD, show r + (i - r) = i by omega]
        rw [e, ← e2]
        exact h3 _ (by omega)
    have hrec : ∀ a, ∃ m : List Nat, rdG n (n + 1) (rl (l.drop r) ++ Z) (acc ++ List.replicate r a) = (acc ++ List.replicate r a ++ m, Z) ∧ m.length = (l.drop r).length ∧ ∀ i, i < (l.drop r).length → LikeF (m.getD i 0) ((l.drop r).getD i 0) := by
      intro a
      have := ih (l.drop r).length (by omega) (l.drop r) rfl (fun y hy => hl y (List.mem_of_mem_drop hy)) (n + 1) (acc ++ List.replicate r a) Z (by rw [List.length_append, List.length_replicate, hdl]; omega)
      rw [rdG_fuel (n + 1) n _ _ _ (by omega) (by rw [List.length_append, List.length_replicate]; omega)] at this
      exact this
    by_cases h1 : r = 1
    · rw [if_pos h1, rdG, if_pos (by omega)]
      have e1 : hd1 ([x.toNat] ++ rl (l.drop r) ++ Z) = x.toNat := rfl
      have e2 : ([x.toNat] ++ rl (l.drop r) ++ Z).drop 1 = rl (l.drop r) ++ Z := rfl
      rw [e1, e2, if_neg (by omega)]
      have e3 : [x.toNat] = List.replicate r x.toNat := by rw [h1]; rfl
      rw [e3]
      exact fin x.toNat (.inl rfl) (hrec _)
    · rw [if_neg h1, rdG, if_pos (by omega)]
      have e1 : hd1 ([x.toNat + 8, r - 1] ++ rl (l.drop r) ++ Z) = x.toNat + 8 := rfl
      have e2 : hd1 (([x.toNat + 8, r - 1] ++ rl (l.drop r) ++ Z).drop 1) = r - 1 := rfl
      have e3 : ([x.toNat + 8, r - 1] ++ rl (l.drop r) ++ Z).drop 2 = rl (l.drop r) ++ Z := rfl
      rw [e1, e2, e3, if_pos (by omega), show r - 1 + 1 = r by omega]
      exact fin _ (.inr rfl) (hrec _)
/-- Differences, by a flag's two bits. -/
def dfR (f sh sm : Nat) (s : List Nat) : Int × List Nat :=
  if f / sh % 2 = 1 then (if f / sm % 2 = 1 then ((hd1 s : Int), s.drop 1) else (-(hd1 s : Int), s.drop 1)) else if f / sm % 2 = 1 then (0, s) else (sx16 (hd2 s), s.drop 2)
def rdD (sh sm : Nat) : List Nat → List Nat → Int → List Int × List Nat
  | [], s, _ => ([], s)
  | f :: fs, s, a => ((a + (dfR f sh sm s).1) :: (rdD sh sm fs (dfR f sh sm s).2 (a + (dfR f sh sm s).1)).1, (rdD sh sm fs (dfR f sh sm s).2 (a + (dfR f sh sm s).1)).2)
theorem rdD_len (sh sm : Nat) (fs : List Nat) (s : List Nat) (a : Int) : (rdD sh sm fs s a).1.length = fs.length := by
  induction fs generalizing s a with
  | nil => rfl
  | cons f t ih => rw [rdD]; simp [ih]
theorem dfR_back {f sh sm : Nat} {d : Int} (h1 : f / sh % 2 = 1 ↔ (d ≠ 0 ∧ -256 < d ∧ d < 256)) (h2 : f / sm % 2 = 1 ↔ (0 ≤ d ∧ d < 256)) (hd : -32768 ≤ d ∧ d ≤ 32767) (Z : List Nat) : dfR f sh sm (axB d ++ Z) = (d, Z) := by
  unfold dfR axB
  rcases ax_cases d with h | h | h | h
  · subst h
    rw [if_neg (by rw [h1]; omega), if_pos (by rw [h2]; omega), if_pos rfl]
    rfl
  · rw [if_pos (by rw [h1]; omega), if_pos (by rw [h2]; omega), if_neg (by omega), if_pos h]
    refine Prod.ext ?_ rfl
    show ((d.toNat : Nat) : Int) = d
    omega
  · rw [if_pos (by rw [h1]; omega), if_neg (by rw [h2]; omega), if_neg (by omega), if_neg (by omega), if_pos h]
    refine Prod.ext ?_ rfl
    show -(((-d).toNat : Nat) : Int) = d
    omega
  · rw [if_neg (by rw [h1]; omega), if_neg (by rw [h2]; omega), if_neg (by omega), if_neg (by omega), if_neg (by omega), hd2_be2, drop_be2, sx_be2 hd.1 hd.2]
theorem like_bits {m : Nat} {x : Int} (h : LikeF m x) (h8 : x.toNat / 8 % 2 = 0) : m % 2 = x.toNat % 2 ∧ m / 2 % 2 = x.toNat / 2 % 2 ∧ m / 4 % 2 = x.toNat / 4 % 2 ∧ m / 16 % 2 = x.toNat / 16 % 2 ∧ m / 32 % 2 = x.toNat / 32 % 2 := by
  rcases h with h | h <;> omega
/-- What is read of the steps, by flags that are like theirs. -/
theorem rdX_back : ∀ (l : List Pn) (a b : Int) (fs : List Nat), fs.length = l.length → (∀ i, i < l.length → LikeF (fs.getD i 0) (flg ((difs a b l).getD i (0, 0, false)) : Int)) → (∀ t ∈ difs a b l, (-32768 ≤ t.1 ∧ t.1 ≤ 32767) ∧ (-32768 ≤ t.2.1 ∧ t.2.1 ≤ 32767)) →
    (∀ Z, rdD 2 16 fs ((difs a b l).flatMap (fun t => axB t.1) ++ Z) a = (l.map (·.x), Z)) ∧ (∀ Z, rdD 4 32 fs ((difs a b l).flatMap (fun t => axB t.2.1) ++ Z) b = (l.map (·.y), Z)) ∧ fs.map (fun f => decide (f % 2 = 1)) = l.map (·.on) := by
  intro l
  induction l with
  | nil =>
    intro a b fs hf _ _
    have : fs = [] := List.length_eq_zero_iff.1 hf
    subst this
    exact ⟨fun Z => rfl, fun Z => rfl, rfl⟩
  | cons p t ih =>
    intro a b fs hf hk hd
    match fs, hf with
    | f :: fs, hf =>
      have hf' : fs.length = t.length := by simpa using hf
      obtain ⟨i1, i2, i3⟩ := ih p.x p.y fs hf' (fun i hi => by
        have := hk (i + 1) (by simpa using hi)
        rw [List.getD_cons_succ, difs, List.getD_cons_succ] at this
        exact this) (fun u hu => hd u (by rw [difs]; simp [hu]))
      have h0 := hk 0 (by simp)
      rw [difs, List.getD_cons_zero, List.getD_cons_zero] at h0
      have hd0 := hd (p.x - a, p.y - b, p.on) (by rw [difs]; simp)
      obtain ⟨b1, b2, b3, b4, b5, b6, b7⟩ := flg_bits (p.x - a, p.y - b, p.on)
      obtain ⟨c1, c2, c3, c4, c5⟩ := like_bits h0 (by rw [Int.toNat_natCast]; exact b2)
      rw [Int.toNat_natCast] at c1 c2 c3 c4 c5
      dsimp only at b3 b4 b5 b6 b7 hd0
      have ex : ∀ Z, dfR f 2 16 (axB (p.x - a) ++ Z) = (p.x - a, Z) := dfR_back (by rw [c2]; exact b4) (by rw [c4]; exact b5) hd0.1
      have ey : ∀ Z, dfR f 4 32 (axB (p.y - b) ++ Z) = (p.y - b, Z) := dfR_back (by rw [c3]; exact b6) (by rw [c5]; exact b7) hd0.2
      refine ⟨fun Z => ?_, fun Z => ?_, ?_⟩
      · rw [difs, List.flatMap_cons, List.append_assoc, rdD]
        dsimp only
        rw [ex, show a + (p.x - a) = p.x by omega, i1]
        rfl
      · rw [difs, List.flatMap_cons, List.append_assoc, rdD]
        dsimp only
        rw [ey, show b + (p.y - b) = p.y by omega, i2]
        rfl
      · rw [List.map_cons, List.map_cons, i3, c1, b3]
        cases p.on <;> rfl
/-- Points out of their numbers. -/
def mkP : List Int → List Int → List Nat → List Pn
  | x :: xs, y :: ys, f :: fs => ⟨x, y, decide (f % 2 = 1)⟩ :: mkP xs ys fs
  | _, _, _ => []
theorem mkP_back : ∀ (l : List Pn) (fs : List Nat), fs.length = l.length → fs.map (fun f => decide (f % 2 = 1)) = l.map (·.on) → mkP (l.map (·.x)) (l.map (·.y)) fs = l := by
  intro l
  induction l with
  | nil => intro fs _ _; rfl
  | cons p t ih =>
    intro fs hf ho
    match fs, hf with
    | f :: fs, hf =>
      rw [List.map_cons, List.map_cons] at ho
      injection ho with h1 h2
      rw [List.map_cons, List.map_cons, mkP, ih fs (by simpa using hf) h2, h1]
theorem mkP_len : ∀ (xs ys : List Int) (fs : List Nat), xs.length = fs.length → ys.length = fs.length → (mkP xs ys fs).length = fs.length := by
  intro xs
  induction xs with
  | nil => intro ys fs h _; cases fs <;> simp at h ⊢; rfl
  | cons x xs ih =>
    intro ys fs h1 h2
    cases fs with
    | nil => simp at h1
    | cons f fs =>
      cases ys with
      | nil => simp at h2
      | cons y ys => rw [mkP, List.length_cons, List.length_cons, ih ys fs (by simpa using h1) (by simpa using h2)]
theorem mkP_get : ∀ (xs ys : List Int) (fs : List Nat) (i : Nat), xs.length = fs.length → ys.length = fs.length → i < fs.length → (mkP xs ys fs).getD i Pn.none = ⟨xs.getD i 0, ys.getD i 0, decide (fs.getD i 0 % 2 = 1)⟩ := by
  intro xs
  induction xs with
  | nil => intro ys fs i h _ hi; simp at h; omega
  | cons x xs ih =>
    intro ys fs i h1 h2 hi
    cases fs with
    | nil => simp at h1
    | cons f fs =>
      cases ys with
      | nil => simp at h2
      | cons y ys =>
      rw [mkP]
      cases i with
      | zero => rfl
      | succ i => rw [List.getD_cons_succ, List.getD_cons_succ, List.getD_cons_succ, List.getD_cons_succ]; exact ih ys fs i (by simpa using h1) (by simpa using h2) (by simpa using hi)
/-- Contours, cut out of the points. -/
def cutC : List Nat → Nat → List Pn → Option (List (List Pn))
  | [], _, _ => some []
  | e :: t, p, l => if e < p ∨ l.length ≤ e then none else (cutC t (e + 1) l).map (fun r => ((l.drop p).take (e + 1 - p)) :: r)
theorem cutC_back : ∀ (cs : List (List Pn)), (∀ c ∈ cs, 0 < c.length) → ∀ (A : List Pn), cutC ((endF (A.length : Int) cs).map Int.toNat) A.length (A ++ cs.flatten) = some cs := by
  intro cs
  induction cs with
  | nil => intro _ A; rfl
  | cons c t ih =>
    intro h A
    have hc := h c (by simp)
    have e1 : ((A.length : Int) + (c.length : Int) - 1).toNat = A.length + c.length - 1 := by omega
    have hi := ih (fun x hx => h x (by simp [hx])) (A ++ c)
    rw [List.length_append, List.append_assoc, Int.natCast_add] at hi
    rw [endF, List.map_cons, e1, cutC, if_neg (by rw [List.length_append, List.flatten_cons, List.length_append]; omega), show A.length + c.length - 1 + 1 = A.length + c.length by omega, List.flatten_cons, hi, show A.length + c.length - A.length = c.length by omega]
    simp
theorem endF_le : ∀ (cs : List (List Pn)) (n : Int), 0 ≤ n → (∀ c ∈ cs, 0 < c.length) → ∀ e ∈ endF n cs, 0 ≤ e ∧ e < n + (cs.flatten.length : Int) := by
  intro cs
  induction cs with
  | nil => intro n _ _ e he; cases he
  | cons c t ih =>
    intro n hn h e he
    have hc := h c (by simp)
    rw [endF] at he
    rw [List.flatten_cons, List.length_append]
    rcases List.mem_cons.1 he with he | he
    · rw [he]; omega
    · have := ih (n + (c.length : Int)) (by omega) (fun x hx => h x (by simp [hx])) e he
      omega
theorem endF_last : ∀ (cs : List (List Pn)) (n : Int), cs ≠ [] → (endF n cs).getD (cs.length - 1) 0 = n + (cs.flatten.length : Int) - 1 := by
  intro cs
  induction cs with
  | nil => intro n h; exact absurd rfl h
  | cons c t ih =>
    intro n _
    rw [endF, List.flatten_cons, List.length_append]
    cases t with
    | nil => simp
    | cons d u =>
      have := ih (n + (c.length : Int)) (by simp)
      simp only [List.length_cons, Nat.add_sub_cancel] at this ⊢
      rw [List.getD_cons_succ, this, Int.natCast_add]
      omega
/-- What bytes are tried as. -/
def ptsW (n : Nat) (es : List Nat) : Nat := if n = 0 then 0 else es.getD (n - 1) 0 + 1
def flW (n : Nat) (s : List Nat) : List Nat × List Nat := if ptsW n (rdE n s).1 ≤ 80 then rdG (ptsW n (rdE n s).1) (ptsW n (rdE n s).1) (rdE n s).2 [] else ([], (rdE n s).2)
def fsW (n : Nat) (s : List Nat) : List Nat := (flW n s).1.take (ptsW n (rdE n s).1)
def xsW (n : Nat) (s : List Nat) : List Int × List Nat := rdD 2 16 (fsW n s) (flW n s).2 0
def ysW (n : Nat) (s : List Nat) : List Int × List Nat := rdD 4 32 (fsW n s) (xsW n s).2 0
def lsW (n : Nat) (s : List Nat) : List Pn := mkP (xsW n s).1 (ysW n s).1 (fsW n s)
def candC (n : Nat) (s : List Nat) : Ol := match cutC (rdE n s).1 0 (lsW n s) with | some cs => ⟨cs, []⟩ | none => Ol.none
def paR (s : List Nat) : Pa := ⟨(hd2 s : Int), sx16 (hd2 (s.drop 2)), sx16 (hd2 (s.drop 4))⟩
def psR (s : List Nat) (k : Nat) : List Pa := (List.range k).map (fun i => paR (s.drop (6 * i)))
def candP (s : List Nat) : Ol := ⟨[], psR (s.drop 2) (min (hd2 s) 7)⟩
def candO (b : List Nat) : Ol := if sx16 (hd2 b) = -1 then candP (b.drop 2) else if sx16 (hd2 b) ≤ 10 then candC (sx16 (hd2 b)).toNat (b.drop 2) else Ol.none
theorem psR_back : ∀ (ps : List Pa), (∀ p ∈ ps, (0 ≤ p.g ∧ p.g ≤ 65535) ∧ (-32768 ≤ p.dx ∧ p.dx ≤ 32767) ∧ (-32768 ≤ p.dy ∧ p.dy ≤ 32767)) → ∀ Z, psR (ps.flatMap paE ++ Z) ps.length = ps := by
  intro ps
  induction ps with
  | nil => intro _ Z; rfl
  | cons p t ih =>
    intro h Z
    obtain ⟨h1, h2, h3⟩ := h p (by simp)
    have hi := ih (fun x hx => h x (by simp [hx])) Z
    have e : ∀ i, ((p :: t).flatMap paE ++ Z).drop (6 * (i + 1)) = (t.flatMap paE ++ Z).drop (6 * i) := by
      intro i
      rw [List.flatMap_cons, List.append_assoc, show 6 * (i + 1) = (paE p).length + 6 * i by simp [paE, be2]; omega, ← List.drop_drop, List.drop_left]
    have e0 : paR (((p :: t).flatMap paE ++ Z).drop (6 * 0)) = p := by
      rw [Nat.mul_zero, List.drop_zero, List.flatMap_cons, paE, List.append_assoc, List.append_assoc, List.append_assoc]
      unfold paR
      have d2 : (be2 p.g ++ (be2 p.dx ++ (be2 p.dy ++ (t.flatMap paE ++ Z)))).drop 2 = be2 p.dx ++ (be2 p.dy ++ (t.flatMap paE ++ Z)) := rfl
      have d4 : (be2 p.g ++ (be2 p.dx ++ (be2 p.dy ++ (t.flatMap paE ++ Z)))).drop 4 = be2 p.dy ++ (t.flatMap paE ++ Z) := rfl
      rw [d2, d4, hd2_be2, hd2_be2, hd2_be2, V8_be2i' h1.1 h1.2, sx_be2 h2.1 h2.2, sx_be2 h3.1 h3.2, Int.toNat_of_nonneg h1.1]
    unfold psR at hi ⊢
    rw [List.length_cons, List.range_succ_eq_map, List.map_cons, List.map_map, e0]
    exact congrArg (List.cons p) ((List.map_congr_left fun i _ => by show paR (((p :: t).flatMap paE ++ Z).drop (6 * (i + 1))) = _; rw [e]).trans hi)
theorem diB_iff {l : List Pn} : diB l = true ↔ ∀ t ∈ difs 0 0 l, (-32768 ≤ t.1 ∧ t.1 ≤ 32767) ∧ (-32768 ≤ t.2.1 ∧ t.2.1 ≤ 32767) := by
  unfold diB
  simp only [List.all_eq_true, Bool.and_eq_true, fdB_iff]
theorem wrOE_ok {o : Ol} (h : wrOE o = 0) : FoP o ∧ (o.ps.length = 0 → diB o.cs.flatten = true) := by
  unfold wrOE at h
  by_cases h1 : foB o = true
  · refine ⟨foB_iff.1 h1, fun h2 => ?_⟩
    rw [if_pos h1, if_pos h2] at h
    cases hd : diB o.cs.flatten with
    | true => rfl
    | false => rw [hd] at h; simp at h
  · rw [if_neg h1] at h
    omega
theorem wrOB_co {o : Ol} (h : wrOE o = 0) (h0 : o.ps.length = 0) : wrOB o = coB o.cs := by
  obtain ⟨h1, h2⟩ := wrOE_ok h
  rw [wrOB, if_pos (foB_iff.2 h1), if_pos h0, if_pos (h2 h0)]
theorem wrOB_pa {o : Ol} (h : wrOE o = 0) (h0 : o.ps.length ≠ 0) : wrOB o = paB o.ps := by
  obtain ⟨h1, h2⟩ := wrOE_ok h
  rw [wrOB, if_pos (foB_iff.2 h1), if_neg h0]
/-- What is read of contours' bytes. -/
theorem co_back {cs : List (List Pn)} (f4 : ∀ c ∈ cs, 0 < c.length) (f5 : cs.flatten.length ≤ 80) (hd : ∀ t ∈ difs 0 0 cs.flatten, (-32768 ≤ t.1 ∧ t.1 ≤ 32767) ∧ (-32768 ≤ t.2.1 ∧ t.2.1 ≤ 32767)) (Z : List Nat) {s : List Nat}
    (hs : s = (endF 0 cs).flatMap be2 ++ (rl (flL cs.flatten) ++ ((difs 0 0 cs.flatten).flatMap (fun t => axB t.1) ++ ((difs 0 0 cs.flatten).flatMap (fun t => axB t.2.1) ++ Z)))) : ptsW cs.length (rdE cs.length s).1 = cs.flatten.length ∧ cutC (rdE cs.length s).1 0 (lsW cs.length s) = some cs := by
  subst hs
  have hes := endF_le cs 0 (Int.le_refl _) f4
  have hE := rdE_back (endF 0 cs) (fun e he => by have := hes e he; omega) (rl (flL cs.flatten) ++ ((difs 0 0 cs.flatten).flatMap (fun t => axB t.1) ++ ((difs 0 0 cs.flatten).flatMap (fun t => axB t.2.1) ++ Z)))
  rw [endF_len] at hE
  have hpt : ptsW cs.length ((endF 0 cs).map Int.toNat) = cs.flatten.length := by
    unfold ptsW
    by_cases hc : cs = []
    · subst hc; rfl
    · have hl := endF_last cs 0 hc
      have hp : 0 < cs.length := List.length_pos_iff.2 hc
      have hpc : 0 < cs.flatten.length := by
        match cs, hc with
        | c :: t, _ =>
          have := f4 c (by simp)
          rw [List.flatten_cons, List.length_append]
          omega
      rw [if_neg (by omega), List.getD_eq_getElem?_getD, List.getElem?_map, List.getElem?_eq_getElem (by rw [endF_len]; omega)]
      rw [List.getD_eq_getElem?_getD, List.getElem?_eq_getElem (by rw [endF_len]; omega)] at hl
      simp only [Option.map_some, Option.getD_some] at hl ⊢
      omega
  have hfl : (flL cs.flatten).length = cs.flatten.length := by unfold flL; rw [List.length_map, difs_len]
  obtain ⟨m, hm1, hm2, hm3⟩ := rdG_back _ (flL cs.flatten) rfl (fun x hx => by
    unfold flL at hx
    obtain ⟨t, _, rfl⟩ := List.mem_map.1 hx
    obtain ⟨b1, b2, _⟩ := flg_bits t
    exact ⟨by omega, by omega, by rw [Int.toNat_natCast]; exact b2⟩) cs.flatten.length [] ((difs 0 0 cs.flatten).flatMap (fun t => axB t.1) ++ ((difs 0 0 cs.flatten).flatMap (fun t => axB t.2.1) ++ Z)) (by rw [hfl]; simp)
  rw [List.nil_append] at hm1
  rw [hfl] at hm2 hm3
  obtain ⟨x1, x2, x3⟩ := rdX_back cs.flatten 0 0 m hm2 (fun i hi => by
    have := hm3 i hi
    have e : (flL cs.flatten).getD i 0 = (flg ((difs 0 0 cs.flatten).getD i (0, 0, false)) : Int) := by
      unfold flL
      rw [List.getD_eq_getElem?_getD, List.getElem?_map, List.getD_eq_getElem?_getD, List.getElem?_eq_getElem (by rw [difs_len]; exact hi)]
      rfl
    rw [← e]
    exact this) hd
  have hF : flW cs.length ((endF 0 cs).flatMap be2 ++ (rl (flL cs.flatten) ++ ((difs 0 0 cs.flatten).flatMap (fun t => axB t.1) ++ ((difs 0 0 cs.flatten).flatMap (fun t => axB t.2.1) ++ Z)))) = (m, (difs 0 0 cs.flatten).flatMap (fun t => axB t.1) ++ ((difs 0 0 cs.flatten).flatMap (fun t => axB t.2.1) ++ Z)) := by
    unfold flW
    rw [hE, hpt, if_pos f5, hm1]
  have hfs : fsW cs.length ((endF 0 cs).flatMap be2 ++ (rl (flL cs.flatten) ++ ((difs 0 0 cs.flatten).flatMap (fun t => axB t.1) ++ ((difs 0 0 cs.flatten).flatMap (fun t => axB t.2.1) ++ Z)))) = m := by
    unfold fsW
    rw [hF, hE, hpt]
    exact List.take_of_length_le (by show m.length ≤ _; omega)
  refine ⟨by rw [hE]; exact hpt, ?_⟩
  unfold lsW ysW xsW
  rw [hfs, hF, hE]
  dsimp only
  rw [x1]
  dsimp only
  rw [x2]
  dsimp only
  rw [mkP_back cs.flatten m hm2 x3]
  have hC := cutC_back cs f4 []
  rw [List.nil_append] at hC
  simp only [List.length_nil] at hC
  exact hC
/-- What is written is read as it was, whatever stands behind. -/
theorem cand_back {o : Ol} (h : wrOE o = 0) (Z : List Nat) : candO (wrOB o ++ Z) = o := by
  obtain ⟨⟨f1, f2, f3, f4, f5, f6, f7⟩, hdi⟩ := wrOE_ok h
  by_cases h0 : o.ps.length = 0
  · rw [wrOB_co h h0]
    have hd := diB_iff.1 (hdi h0)
    obtain ⟨cs, ps⟩ := o
    have hps : ps = [] := List.length_eq_zero_iff.1 h0
    subst hps
    dsimp only at *
    unfold coB
    simp only [List.append_assoc]
    have v0 : V8 (be2 (cs.length : Int)) = cs.length := by rw [V8_be2i' (by omega) (by omega), Int.toNat_natCast]
    have hsx : sx16 cs.length = (cs.length : Int) := by unfold sx16; rw [if_neg (by omega)]
    unfold candO
    rw [hd2_be2, drop_be2, v0, hsx, if_neg (by omega), if_pos (by omega), Int.toNat_natCast]
    obtain ⟨_, hC⟩ := co_back f4 f5 hd Z (s := _) rfl
    unfold candC
    rw [hC]
  · rw [wrOB_pa h h0]
    obtain ⟨cs, ps⟩ := o
    have hcs : cs = [] := List.length_eq_zero_iff.1 (by rcases f1 with f1 | f1; exact f1; exact absurd f1 h0)
    subst hcs
    dsimp only at *
    have v0 : V8 (be2 (ps.length : Int)) = ps.length := by rw [V8_be2i' (by omega) (by omega), Int.toNat_natCast]
    unfold paB candO
    simp only [List.append_assoc]
    have e1 : hd2 ([255, 255] ++ (be2 (ps.length : Int) ++ (ps.flatMap paE ++ Z))) = 65535 := rfl
    have e2 : ([255, 255] ++ (be2 (ps.length : Int) ++ (ps.flatMap paE ++ Z))).drop 2 = be2 (ps.length : Int) ++ (ps.flatMap paE ++ Z) := rfl
    rw [e1, e2, if_pos (by decide)]
    unfold candP
    rw [hd2_be2, drop_be2, v0, show min ps.length 7 = ps.length by omega, psR_back ps f7]

end Go.Proofs.Ytaejlopkdkaphaa
