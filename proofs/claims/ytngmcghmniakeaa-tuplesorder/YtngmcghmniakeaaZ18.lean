/-
  Outlines: how bytes are read, and that what is written is read (plain mathematics).
  Outlines: what the laws ask (plain mathematics).
  How points, parts and outlines lie in a world.
-/
import Derived.Test.YtngmcghmniakeaaZ17
import Derived.Test.YtngmcghmniakeaaZ12
import Derived.Test.YtngmcghmniakeaaZ9
namespace Go.Proofs.Ytngmcghmniakeaa
set_option linter.unusedSimpArgs false
set_option linter.unusedVariables false

/-- The first byte, the first two; what lacks is 0. -/
def hd1 (s : List Nat) : Nat := s.headD 0
def hd2 : List Nat → Nat
  | x :: y :: _ => 256 * x + y
  | _ => 0
theorem nmV_hd1 (b : List Nat) (p : Nat) : nmV b (p : Int) 1 = hd1 (b.drop p) := by
  unfold nmV
  by_cases h : p + 1 ≤ b.length
  · rw [if_pos (by simp only [inB, decide_eq_true_iff]; omega), Int.toNat_natCast]
    have : 0 < (b.drop p).length := by rw [List.length_drop]; omega
    match hd : b.drop p, this with
    | x :: t, _ => simp [hd1, V8]
  · rw [if_neg (by simp only [inB, decide_eq_true_iff]; omega), List.drop_eq_nil_of_le (by omega)]
    rfl
theorem nmV_hd2 (b : List Nat) (p : Nat) : nmV b (p : Int) 2 = hd2 (b.drop p) := by
  unfold nmV
  by_cases h : p + 2 ≤ b.length
  · rw [if_pos (by simp only [inB, decide_eq_true_iff]; omega), Int.toNat_natCast]
    have : 1 < (b.drop p).length := by rw [List.length_drop]; omega
    match hd : b.drop p, this with
    | x :: y :: t, _ => simp [hd2, V8]
  · rw [if_neg (by simp only [inB, decide_eq_true_iff]; omega)]
    have : (b.drop p).length < 2 := by rw [List.length_drop]; omega
    match hd : b.drop p, this with
    | [], _ => rfl
    | [x], _ => rfl
theorem hd2_be2 (z : Int) (Z : List Nat) : hd2 (be2 z ++ Z) = V8 (be2 z) := by simp [be2, hd2, V8]
theorem drop_be2 (z : Int) (Z : List Nat) : (be2 z ++ Z).drop 2 = Z := rfl
theorem V8_be2i' {z : Int} (h1 : 0 ≤ z) (h2 : z ≤ 65535) : V8 (be2 z) = z.toNat := by
  simp only [be2, V8, List.foldl_cons, List.foldl_nil]
  omega
/-- Ends. -/
def rdE : Nat → List Nat → List Nat × List Nat
  | 0, s => ([], s)
  | n + 1, s => (hd2 s :: (rdE n (s.drop 2)).1, (rdE n (s.drop 2)).2)
theorem rdE_len (n : Nat) (s : List Nat) : (rdE n s).1.length = n := by
  induction n generalizing s with
  | zero => rfl
  | succ n ih => rw [rdE]; simp [ih]
theorem rdE_rest (n : Nat) (s : List Nat) : (rdE n s).2 = s.drop (2 * n) := by
  induction n generalizing s with
  | zero => rfl
  | succ n ih => rw [rdE]; dsimp only; rw [ih, List.drop_drop]; congr 1; omega
theorem rdE_get (n : Nat) (s : List Nat) (i : Nat) (hi : i < n) : (rdE n s).1.getD i 0 = hd2 (s.drop (2 * i)) := by
  induction n generalizing s i with
  | zero => omega
  | succ n ih =>
    rw [rdE]
    cases i with
    | zero => rfl
    | succ i => dsimp only; rw [List.getD_cons_succ, ih (s.drop 2) i (by omega), List.drop_drop]; congr 2; omega
theorem rdE_back : ∀ (es : List Int), (∀ e ∈ es, 0 ≤ e ∧ e ≤ 65535) → ∀ Z, rdE es.length (es.flatMap be2 ++ Z) = (es.map Int.toNat, Z) := by
  intro es
  induction es with
  | nil => intro _ Z; rfl
  | cons e t ih =>
    intro h Z
    have h0 := h e (by simp)
    rw [List.length_cons, rdE, List.flatMap_cons, List.append_assoc, hd2_be2, drop_be2, ih (fun x hx => h x (by simp [hx])), V8_be2i' h0.1 h0.2]
    rfl
/-- Flags: until there are as many as are wanted. -/
def rdG : Nat → Nat → List Nat → List Nat → List Nat × List Nat
  | 0, _, s, acc => (acc, s)
  | f + 1, n, s, acc => if acc.length < n then (if hd1 s / 8 % 2 = 1 then rdG f n (s.drop 2) (acc ++ List.replicate (hd1 (s.drop 1) + 1) (hd1 s)) else rdG f n (s.drop 1) (acc ++ [hd1 s])) else (acc, s)
theorem rdG_stop {f n : Nat} {s acc : List Nat} (h : n ≤ acc.length) : rdG f n s acc = (acc, s) := by
  cases f with
  | zero => rfl
  | succ f => rw [rdG, if_neg (by omega)]
theorem rdG_fuel : ∀ (f g n : Nat) (s acc : List Nat), n - acc.length ≤ f → n - acc.length ≤ g → rdG f n s acc = rdG g n s acc := by
  intro f
  induction f with
  | zero => intro g n s acc hf _; rw [rdG_stop (by omega), rdG_stop (by omega)]
  | succ f ih =>
    intro g n s acc hf hg
    by_cases hn : acc.length < n
    · obtain ⟨g, rfl⟩ : ∃ m, g = m + 1 := ⟨g - 1, by omega⟩
      rw [rdG, rdG, if_pos hn, if_pos hn]
      split
      · exact ih _ _ _ _ (by rw [List.length_append, List.length_replicate]; omega) (by rw [List.length_append, List.length_replicate]; omega)
      · exact ih _ _ _ _ (by rw [List.length_append, List.length_singleton]; omega) (by rw [List.length_append, List.length_singleton]; omega)
    · rw [rdG_stop (by omega), rdG_stop (by omega)]
/-- A flag that is read for one that is written. -/
def LikeF (a : Nat) (x : Int) : Prop := a = x.toNat ∨ a = x.toNat + 8
theorem rdG_back : ∀ (k : Nat) (l : List Int), l.length = k → (∀ x ∈ l, 0 ≤ x ∧ x < 64 ∧ x.toNat / 8 % 2 = 0) → ∀ (n : Nat) (acc Z : List Nat), acc.length + l.length = n →
    ∃ m : List Nat, rdG n n (rl l ++ Z) acc = (acc ++ m, Z) ∧ m.length = l.length ∧ ∀ i, i < l.length → LikeF (m.getD i 0) (l.getD i 0) := by
  intro k
  induction k using Nat.strongRecOn with
  | ind k ih =>
    intro l hk hl n acc Z hn
    by_cases h0 : l = []
    · subst h0
      exact ⟨[], by rw [rdG_stop (by simp at hn; omega)]; simp [rl_nil], rfl, fun i hi => by simp at hi⟩
    have hpos : 0 < l.length := List.length_pos_iff.2 h0
    obtain ⟨x, hx⟩ : ∃ x, l.getD 0 0 = x := ⟨_, rfl⟩
    have hxm : x ∈ l := by
      rw [← hx, List.getD_eq_getElem?_getD, List.getElem?_eq_getElem hpos]
      exact List.getElem_mem hpos
    obtain ⟨x1, x2, x3⟩ := hl x hxm
    obtain ⟨r, hr⟩ : ∃ r, rn Int.toNat 256 l = r := ⟨_, rfl⟩
    have r1 := rn_pos (c := Int.toNat) (M := 256) (by omega) h0
    obtain ⟨r2, r3⟩ := rn_le (c := Int.toNat) (M := 256) l
    rw [hr] at r1 r2 r3
    have hsame : ∀ j, j < r → l.getD j 0 = x := fun j hj => by
      have h1 := rn_same (c := Int.toNat) (M := 256) (l := l) (j := j) (by omega)
      rw [hx] at h1
      have h2 : l.getD j 0 ∈ l := by rw [List.getD_eq_getElem?_getD, List.getElem?_eq_getElem (by omega)]; exact List.getElem_mem _
      have := (hl _ h2).1
      omega
    have hdl : (l.drop r).length = l.length - r := List.length_drop
    rw [rl_cons h0, hr, hx]
    obtain ⟨n, rfl⟩ : ∃ m, n = m + 1 := ⟨n - 1, by omega⟩
    have fin : ∀ a : Nat, LikeF a x → (∃ m : List Nat, rdG n (n + 1) (rl (l.drop r) ++ Z) (acc ++ List.replicate r a) = (acc ++ List.replicate r a ++ m, Z) ∧ m.length = (l.drop r).length ∧ ∀ i, i < (l.drop r).length → LikeF (m.getD i 0) ((l.drop r).getD i 0)) →
        ∃ m : List Nat, rdG n (n + 1) (rl (l.drop r) ++ Z) (acc ++ List.replicate r a) = (acc ++ m, Z) ∧ m.length = l.length ∧ ∀ i, i < l.length → LikeF (m.getD i 0) (l.getD i 0) := by
      rintro a ha ⟨m, h1, h2, h3⟩
      refine ⟨List.replicate r a ++ m, by rw [h1, List.append_assoc], by rw [List.length_append, List.length_replicate, h2, hdl]; omega, fun i hi => ?_⟩
      by_cases hir : i < r
      · have e : (List.replicate r a ++ m).getD i 0 = a := by simp [List.getD, List.getElem?_append_left (show i < (List.replicate r a).length by simpa using hir), hir]
        rw [e, hsame i hir]
        exact ha
      · have e : (List.replicate r a ++ m).getD i 0 = m.getD (i - r) 0 := by simp [List.getD, List.getElem?_append_right (show (List.replicate r a).length ≤ i by simp; omega)]
        have e2 : (l.drop r).getD (i - r) 0 = l.getD i 0 := by simp [List.getD, show r + (i - r) = i by omega]
        rw [e, ← e2]
        exact h3 _ (by omega)
    have hrec : ∀ a, ∃ m : List Nat, rdG n (n + 1) (rl (l.drop r) ++ Z) (acc ++ List.replicate r a) = (acc ++ List.replicate r a ++ m, Z) ∧ m.length = (l.drop r).length ∧ ∀ i, i < (l.drop r).length → LikeF (m.getD i 0) ((l.drop r).getD i 0) := by
      intro a
      have := ih (l.drop r).length (by omega) (l.drop r) rfl (fun y hy => hl y (List.mem_of_mem_drop hy)) (n + 1) (acc ++ List.replicate r a) Z (by rw [List.length_append, List.length_replicate, hdl]; omega)
      rw [rdG_fuel (n + 1) n _ _ _ (by omega) (by rw [List.length_append, List.length_replicate]; omega)] at this
      exact this
    by_cases h1 : r = 1
    · rw [if_pos h1, rdG, if_pos (by omega)]
      have e1 : hd1 ([x.toNat] ++ rl (l.drop r) ++ Z) = x.toNat := rfl
      have e2 : ([x.toNat] ++ rl (l.drop r) ++ Z).drop 1 = rl (l.drop r) ++ Z := rfl
      rw [e1, e2, if_neg (by omega)]
      have e3 : [x.toNat] = List.replicate r x.toNat := by rw [h1]; rfl
      rw [e3]
      exact fin x.toNat (.inl rfl) (hrec _)
    · rw [if_neg h1, rdG, if_pos (by omega)]
      have e1 : hd1 ([x.toNat + 8, r - 1] ++ rl (l.drop r) ++ Z) = x.toNat + 8 := rfl
      have e2 : hd1 (([x.toNat + 8, r - 1] ++ rl (l.drop r) ++ Z).drop 1) = r - 1 := rfl
      have e3 : ([x.toNat + 8, r - 1] ++ rl (l.drop r) ++ Z).drop 2 = rl (l.drop r) ++ Z := rfl
      rw [e1, e2, e3, if_pos (by omega), show r - 1 + 1 = r by omega]
      exact fin _ (.inr rfl) (hrec _)
/-- Differences, by a flag's two bits. -/
def dfR (f sh sm : Nat) (s : List Nat) : Int × List Nat :=
  if f / sh % 2 = 1 then (if f / sm % 2 = 1 then ((hd1 s : Int), s.drop 1) else (-(hd1 s : Int), s.drop 1)) else if f / sm % 2 = 1 then (0, s) else (sx16 (hd2 s), s.drop 2)
def rdD (sh sm : Nat) : List Nat → List Nat → Int → List Int × List Nat
  | [], s, _ => ([], s)
  | f :: fs, s, a => ((a + (dfR f sh sm s).1) :: (rdD sh sm fs (dfR f sh sm s).2 (a + (dfR f sh sm s).1)).1, (rdD sh sm fs (dfR f sh sm s).2 (a + (dfR f sh sm s).1)).2)
theorem rdD_len (sh sm : Nat) (fs : List Nat) (s : List Nat) (a : Int) : (rdD sh sm fs s a).1.length = fs.length := by
  induction fs generalizing s a with
  | nil => rfl
  | cons f t ih => rw [rdD]; simp [ih]
theorem dfR_back {f sh sm : Nat} {d : Int} (h1 : f / sh % 2 = 1 ↔ (d ≠ 0 ∧ -256 < d ∧ d < 256)) (h2 : f / sm % 2 = 1 ↔ (0 ≤ d ∧ d < 256)) (hd : -32768 ≤ d ∧ d ≤ 32767) (Z : List Nat) : dfR f sh sm (axB d ++ Z) = (d, Z) := by
  unfold dfR axB
  rcases ax_cases d with h | h | h | h
  · subst h
    rw [if_neg (by rw [h1]; omega), if_pos (by rw [h2]; omega), if_pos rfl]
    rfl
  · rw [if_pos (by rw [h1]; omega), if_pos (by rw [h2]; omega), if_neg (by omega), if_pos h]
    refine Prod.ext ?_ rfl
    show ((d.toNat : Nat) : Int) = d
    omega
  · rw [if_pos (by rw [h1]; omega), if_neg (by rw [h2]; omega), if_neg (by omega), if_neg (by omega), if_pos h]
    refine Prod.ext ?_ rfl
    show -(((-d).toNat : Nat) : Int) = d
    omega
  · rw [if_neg (by rw [h1]; omega), if_neg (by rw [h2]; omega), if_neg (by omega), if_neg (by omega), if_neg (by omega), hd2_be2, drop_be2, sx_be2 hd.1 hd.2]
theorem like_bits {m : Nat} {x : Int} (h : LikeF m x) (h8 : x.toNat / 8 % 2 = 0) : m % 2 = x.toNat % 2 ∧ m / 2 % 2 = x.toNat / 2 % 2 ∧ m / 4 % 2 = x.toNat / 4 % 2 ∧ m / 16 % 2 = x.toNat / 16 % 2 ∧ m / 32 % 2 = x.toNat / 32 % 2 := by
  rcases h with h | h <;> omega
/-- What is read of the steps, by flags that are like theirs. -/
theorem rdX_back : ∀ (l : List Pn) (a b : Int) (fs : List Nat), fs.length = l.length → (∀ i, i < l.length → LikeF (fs.getD i 0) (flg ((difs a b l).getD i (0, 0, false)) : Int)) → (∀ t ∈ difs a b l, (-32768 ≤ t.1 ∧ t.1 ≤ 32767) ∧ (-32768 ≤ t.2.1 ∧ t.2.1 ≤ 32767)) →
    (∀ Z, rdD 2 16 fs ((difs a b l).flatMap (fun t => axB t.1) ++ Z) a = (l.map (·.x), Z)) ∧ (∀ Z, rdD 4 32 fs ((difs a b l).flatMap (fun t => axB t.2.1) ++ Z) b = (l.map (·.y), Z)) ∧ fs.map (fun f => decide (f % 2 = 1)) = l.map (·.on) := by
  intro l
  induction l with
  | nil =>
    intro a b fs hf _ _
    have : fs = [] := List.length_eq_zero_iff.1 hf
    subst this
    exact ⟨fun Z => rfl, fun Z => rfl, rfl⟩
  | cons p t ih =>
    intro a b fs hf hk hd
    match fs, hf with
    | f :: fs, hf =>
      have hf' : fs.length = t.length := by simpa using hf
      obtain ⟨i1, i2, i3⟩ := ih p.x p.y fs hf' (fun i hi => by
        have := hk (i + 1) (by simpa using hi)
        rw [List.getD_cons_succ, difs, List.getD_cons_succ] at this
        exact this) (fun u hu => hd u (by rw [difs]; simp [hu]))
      have h0 := hk 0 (by simp)
      rw [difs, List.getD_cons_zero, List.getD_cons_zero] at h0
      have hd0 := hd (p.x - a, p.y - b, p.on) (by rw [difs]; simp)
      obtain ⟨b1, b2, b3, b4, b5, b6, b7⟩ := flg_bits (p.x - a, p.y - b, p.on)
      obtain ⟨c1, c2, c3, c4, c5⟩ := like_bits h0 (by rw [Int.toNat_natCast]; exact b2)
      rw [Int.toNat_natCast] at c1 c2 c3 c4 c5
      dsimp only at b3 b4 b5 b6 b7 hd0
      have ex : ∀ Z, dfR f 2 16 (axB (p.x - a) ++ Z) = (p.x - a, Z) := dfR_back (by rw [c2]; exact b4) (by rw [c4]; exact b5) hd0.1
      have ey : ∀ Z, dfR f 4 32 (axB (p.y - b) ++ Z) = (p.y - b, Z) := dfR_back (by rw [c3]; exact b6) (by rw [c5]; exact b7) hd0.2
      refine ⟨fun Z => ?_, fun Z => ?_, ?_⟩
      · rw [difs, List.flatMap_cons, List.append_assoc, rdD]
        dsimp only
        rw [ex, show a + (p.x - a) = p.x by omega, i1]
        rfl
      · rw [difs, List.flatMap_cons, List.append_assoc, rdD]
        dsimp only
        rw [ey, show b + (p.y - b) = p.y by omega, i2]
        rfl
      · rw [List.map_cons, List.map_cons, i3, c1, b3]
        cases p.on <;> rfl
/-- Points out of their numbers. -/
def mkP : List Int → List Int → List Nat → List Pn
  | x :: xs, y :: ys, f :: fs => ⟨x, y, decide (f % 2 = 1)⟩ :: mkP xs ys fs
  | _, _, _ => []
theorem mkP_back : ∀ (l : List Pn) (fs : List Nat), fs.length = l.length → fs.map (fun f => decide (f % 2 = 1)) = l.map (·.on) → mkP (l.map (·.x)) (l.map (·.y)) fs = l := by
  intro l
  induction l with
  | nil => intro fs _ _; rfl
  | cons p t ih =>
    intro fs hf ho
    match fs, hf with
    | f :: fs, hf =>
      rw [List.map_cons, List.map_cons] at ho
      injection ho with h1 h2
      rw [List.map_cons, List.map_cons, mkP, ih fs (by simpa using hf) h2, h1]
theorem mkP_len : ∀ (xs ys : List Int) (fs : List Nat), xs.length = fs.length → ys.length = fs.length → (mkP xs ys fs).length = fs.length := by
  intro xs
  induction xs with
  | nil => intro ys fs h _; cases fs <;> simp at h ⊢; rfl
  | cons x xs ih =>
    intro ys fs h1 h2
    cases fs with
    | nil => simp at h1
    | cons f fs =>
      cases ys with
      | nil => simp at h2
      | cons y ys => rw [mkP, List.length_cons, List.length_cons, ih ys fs (by simpa using h1) (by simpa using h2)]
theorem mkP_get : ∀ (xs ys : List Int) (fs : List Nat) (i : Nat), xs.length = fs.length → ys.length = fs.length → i < fs.length → (mkP xs ys fs).getD i Pn.none = ⟨xs.getD i 0, ys.getD i 0, decide (fs.getD i 0 % 2 = 1)⟩ := by
  intro xs
  induction xs with
  | nil => intro ys fs i h _ hi; simp at h; omega
  | cons x xs ih =>
    intro ys fs i h1 h2 hi
    cases fs with
    | nil => simp at h1
    | cons f fs =>
      cases ys with
      | nil => simp at h2
      | cons y ys =>
      rw [mkP]
      cases i with
      | zero => rfl
      | succ i => rw [List.getD_cons_succ, List.getD_cons_succ, List.getD_cons_succ, List.getD_cons_succ]; exact ih ys fs i (by simpa using h1) (by simpa using h2) (by simpa using hi)
/-- Contours, cut out of the points. -/
def cutC : List Nat → Nat → List Pn → Option (List (List Pn))
  | [], _, _ => some []
  | e :: t, p, l => if e < p ∨ l.length ≤ e then none else (cutC t (e + 1) l).map (fun r => ((l.drop p).take (e + 1 - p)) :: r)
theorem cutC_back : ∀ (cs : List (List Pn)), (∀ c ∈ cs, 0 < c.length) → ∀ (A : List Pn), cutC ((endF (A.length : Int) cs).map Int.toNat) A.length (A ++ cs.flatten) = some cs := by
  intro cs
  induction cs with
  | nil => intro _ A; rfl
  | cons c t ih =>
    intro h A
    have hc := h c (by simp)
    have e1 : ((A.length : Int) + (c.length : Int) - 1).toNat = A.length + c.length - 1 := by omega
    have hi := ih (fun x hx => h x (by simp [hx])) (A ++ c)
    rw [List.length_append, List.append_assoc, Int.natCast_add] at hi
    rw [endF, List.map_cons, e1, cutC, if_neg (by rw [List.length_append, List.flatten_cons, List.length_append]; omega), show A.length + c.length - 1 + 1 = A.length + c.length by omega, List.flatten_cons, hi, show A.length + c.length - A.length = c.length by omega]
    simp
theorem endF_le : ∀ (cs : List (List Pn)) (n : Int), 0 ≤ n → (∀ c ∈ cs, 0 < c.length) → ∀ e ∈ endF n cs, 0 ≤ e ∧ e < n + (cs.flatten.length : Int) := by
  intro cs
  induction cs with
  | nil => intro n _ _ e he; cases he
  | cons c t ih =>
    intro n hn h e he
    have hc := h c (by simp)
    rw [endF] at he
    rw [List.flatten_cons, List.length_append]
    rcases List.mem_cons.1 he with he | he
    · rw [he]; omega
    · have := ih (n + (c.length : Int)) (by omega) (fun x hx => h x (by simp [hx])) e he
      omega
theorem endF_last : ∀ (cs : List (List Pn)) (n : Int), cs ≠ [] → (endF n cs).getD (cs.length - 1) 0 = n + (cs.flatten.length : Int) - 1 := by
  intro cs
  induction cs with
  | nil => intro n h; exact absurd rfl h
  | cons c t ih =>
    intro n _
    rw [endF, List.flatten_cons, List.length_append]
    cases t with
    | nil => simp
    | cons d u =>
      have := ih (n + (c.length : Int)) (by simp)
      simp only [List.length_cons, Nat.add_sub_cancel] at this ⊢
      rw [List.getD_cons_succ, this, Int.natCast_add]
      omega
/-- What bytes are tried as. -/
def ptsW (n : Nat) (es : List Nat) : Nat := if n = 0 then 0 else es.getD (n - 1) 0 + 1
def flW (n : Nat) (s : List Nat) : List Nat × List Nat := if ptsW n (rdE n s).1 ≤ 80 then rdG (ptsW n (rdE n s).1) (ptsW n (rdE n s).1) (rdE n s).2 [] else ([], (rdE n s).2)
def fsW (n : Nat) (s : List Nat) : List Nat := (flW n s).1.take (ptsW n (rdE n s).1)
def xsW (n : Nat) (s : List Nat) : List Int × List Nat := rdD 2 16 (fsW n s) (flW n s).2 0
def ysW (n : Nat) (s : List Nat) : List Int × List Nat := rdD 4 32 (fsW n s) (xsW n s).2 0
def lsW (n : Nat) (s : List Nat) : List Pn := mkP (xsW n s).1 (ysW n s).1 (fsW n s)
def candC (n : Nat) (s : List Nat) : Ol := match cutC (rdE n s).1 0 (lsW n s) with | some cs => ⟨cs, []⟩ | none => Ol.none
def paR (s : List Nat) : Pa := ⟨(hd2 s : Int), sx16 (hd2 (s.drop 2)), sx16 (hd2 (s.drop 4))⟩
def psR (s : List Nat) (k : Nat) : List Pa := (List.range k).map (fun i => paR (s.drop (6 * i)))
def candP (s : List Nat) : Ol := ⟨[], psR (s.drop 2) (min (hd2 s) 7)⟩
def candO (b : List Nat) : Ol := if sx16 (hd2 b) = -1 then candP (b.drop 2) else if sx16 (hd2 b) ≤ 10 then candC (sx16 (hd2 b)).toNat (b.drop 2) else Ol.none
theorem psR_back : ∀ (ps : List Pa), (∀ p ∈ ps, (0 ≤ p.g ∧ p.g ≤ 65535) ∧ (-32768 ≤ p.dx ∧ p.dx ≤ 32767) ∧ (-32768 ≤ p.dy ∧ p.dy ≤ 32767)) → ∀ Z, psR (ps.flatMap paE ++ Z) ps.length = ps := by
  intro ps
  induction ps with
  | nil => intro _ Z; rfl
  | cons p t ih =>
    intro h Z
    obtain ⟨h1, h2, h3⟩ := h p (by simp)
    have hi := ih (fun x hx => h x (by simp [hx])) Z
    have e : ∀ i, ((p :: t).flatMap paE ++ Z).drop (6 * (i + 1)) = (t.flatMap paE ++ Z).drop (6 * i) := by
      intro i
      rw [List.flatMap_cons, List.append_assoc, show 6 * (i + 1) = (paE p).length + 6 * i by simp [paE, be2]; omega, ← List.drop_drop, List.drop_left]
    have e0 : paR (((p :: t).flatMap paE ++ Z).drop (6 * 0)) = p := by
      rw [Nat.mul_zero, List.drop_zero, List.flatMap_cons, paE, List.append_assoc, List.append_assoc, List.append_assoc]
      unfold paR
      have d2 : (be2 p.g ++ (be2 p.dx ++ (be2 p.dy ++ (t.flatMap paE ++ Z)))).drop 2 = be2 p.dx ++ (be2 p.dy ++ (t.flatMap paE ++ Z)) := rfl
      have d4 : (be2 p.g ++ (be2 p.dx ++ (be2 p.dy ++ (t.flatMap paE ++ Z)))).drop 4 = be2 p.dy ++ (t.flatMap paE ++ Z) := rfl
      rw [d2, d4, hd2_be2, hd2_be2, hd2_be2, V8_be2i' h1.1 h1.2, sx_be2 h2.1 h2.2, sx_be2 h3.1 h3.2, Int.toNat_of_nonneg h1.1]
    unfold psR at hi ⊢
    rw [List.length_cons, List.range_succ_eq_map, List.map_cons, List.map_map, e0]
    exact congrArg (List.cons p) ((List.map_congr_left fun i _ => by show paR (((p :: t).flatMap paE ++ Z).drop (6 * (i + 1))) = _; rw [e]).trans hi)
theorem diB_iff {l : List Pn} : diB l = true ↔ ∀ t ∈ difs 0 0 l, (-32768 ≤ t.1 ∧ t.1 ≤ 32767) ∧ (-32768 ≤ t.2.1 ∧ t.2.1 ≤ 32767) := by
  unfold diB
  simp only [List.all_eq_true, Bool.and_eq_true, fdB_iff]
theorem wrOE_ok {o : Ol} (h : wrOE o = 0) : FoP o ∧ (o.ps.length = 0 → diB o.cs.flatten = true) := by
  unfold wrOE at h
  by_cases h1 : foB o = true
  · refine ⟨foB_iff.1 h1, fun h2 => ?_⟩
    rw [if_pos h1, if_pos h2] at h
    cases hd : diB o.cs.flatten with
    | true => rfl
    | false => rw [hd] at h; simp at h
  · rw [if_neg h1] at h
    omega
theorem wrOB_co {o : Ol} (h : wrOE o = 0) (h0 : o.ps.length = 0) : wrOB o = coB o.cs := by
  obtain ⟨h1, h2⟩ := wrOE_ok h
  rw [wrOB, if_pos (foB_iff.2 h1), if_pos h0, if_pos (h2 h0)]
theorem wrOB_pa {o : Ol} (h : wrOE o = 0) (h0 : o.ps.length ≠ 0) : wrOB o = paB o.ps := by
  obtain ⟨h1, h2⟩ := wrOE_ok h
  rw [wrOB, if_pos (foB_iff.2 h1), if_neg h0]
/-- What is read of contours' bytes. -/
theorem co_back {cs : List (List Pn)} (f4 : ∀ c ∈ cs, 0 < c.length) (f5 : cs.flatten.length ≤ 80) (hd : ∀ t ∈ difs 0 0 cs.flatten, (-32768 ≤ t.1 ∧ t.1 ≤ 32767) ∧ (-32768 ≤ t.2.1 ∧ t.2.1 ≤ 32767)) (Z : List Nat) {s : List Nat}
    (hs : s = (endF 0 cs).flatMap be2 ++ (rl (flL cs.flatten) ++ ((difs 0 0 cs.flatten).flatMap (fun t => axB t.1) ++ ((difs 0 0 cs.flatten).flatMap (fun t => axB t.2.1) ++ Z)))) : ptsW cs.length (rdE cs.length s).1 = cs.flatten.length ∧ cutC (rdE cs.length s).1 0 (lsW cs.length s) = some cs := by
  subst hs
  have hes := endF_le cs 0 (Int.le_refl _) f4
  have hE := rdE_back (endF 0 cs) (fun e he => by have := hes e he; omega) (rl (flL cs.flatten) ++ ((difs 0 0 cs.flatten).flatMap (fun t => axB t.1) ++ ((difs 0 0 cs.flatten).flatMap (fun t => axB t.2.1) ++ Z)))
  rw [endF_len] at hE
  have hpt : ptsW cs.length ((endF 0 cs).map Int.toNat) = cs.flatten.length := by
    unfold ptsW
    by_cases hc : cs = []
    · subst hc; rfl
    · have hl := endF_last cs 0 hc
      have hp : 0 < cs.length := List.length_pos_iff.2 hc
      have hpc : 0 < cs.flatten.length := by
        match cs, hc with
        | c :: t, _ =>
          have := f4 c (by simp)
          rw [List.flatten_cons, List.length_append]
          omega
      rw [if_neg (by omega), List.getD_eq_getElem?_getD, List.getElem?_map, List.getElem?_eq_getElem (by rw [endF_len]; omega)]
      rw [List.getD_eq_getElem?_getD, List.getElem?_eq_getElem (by rw [endF_len]; omega)] at hl
      simp only [Option.map_some, Option.getD_some] at hl ⊢
      omega
  have hfl : (flL cs.flatten).length = cs.flatten.length := by unfold flL; rw [List.length_map, difs_len]
  obtain ⟨m, hm1, hm2, hm3⟩ := rdG_back _ (flL cs.flatten) rfl (fun x hx => by
    unfold flL at hx
    obtain ⟨t, _, rfl⟩ := List.mem_map.1 hx
    obtain ⟨b1, b2, _⟩ := flg_bits t
    exact ⟨by omega, by omega, by rw [Int.toNat_natCast]; exact b2⟩) cs.flatten.length [] ((difs 0 0 cs.flatten).flatMap (fun t => axB t.1) ++ ((difs 0 0 cs.flatten).flatMap (fun t => axB t.2.1) ++ Z)) (by rw [hfl]; simp)
  rw [List.nil_append] at hm1
  rw [hfl] at hm2 hm3
  obtain ⟨x1, x2, x3⟩ := rdX_back cs.flatten 0 0 m hm2 (fun i hi => by
    have := hm3 i hi
    have e : (flL cs.flatten).getD i 0 = (flg ((difs 0 0 cs.flatten).getD i (0, 0, false)) : Int) := by
      unfold flL
      rw [List.getD_eq_getElem?_getD, List.getElem?_map, List.getD_eq_getElem?_getD, List.getElem?_eq_getElem (by rw [difs_len]; exact hi)]
      rfl
    rw [← e]
    exact this) hd
  have hF : flW cs.length ((endF 0 cs).flatMap be2 ++ (rl (flL cs.flatten) ++ ((difs 0 0 cs.flatten).flatMap (fun t => axB t.1) ++ ((difs 0 0 cs.flatten).flatMap (fun t => axB t.2.1) ++ Z)))) = (m, (difs 0 0 cs.flatten).flatMap (fun t => axB t.1) ++ ((difs 0 0 cs.flatten).flatMap (fun t => axB t.2.1) ++ Z)) := by
    unfold flW
    rw [hE, hpt, if_pos f5, hm1]
  have hfs : fsW cs.length ((endF 0 cs).flatMap be2 ++ (rl (flL cs.flatten) ++ ((difs 0 0 cs.flatten).flatMap (fun t => axB t.1) ++ ((difs 0 0 cs.flatten).flatMap (fun t => axB t.2.1) ++ Z)))) = m := by
    unfold fsW
    rw [hF, hE, hpt]
    exact List.take_of_length_le (by show m.length ≤ _; omega)
  refine ⟨by rw [hE]; exact hpt, ?_⟩
  unfold lsW ysW xsW
  rw [hfs, hF, hE]
  dsimp only
  rw [x1]
  dsimp only
  rw [x2]
  dsimp only
  rw [mkP_back cs.flatten m hm2 x3]
  have hC := cutC_back cs f4 []
  rw [List.nil_append] at hC
  simp only [List.length_nil] at hC
  exact hC
/-- What is written is read as it was, whatever stands behind. -/
theorem cand_back {o : Ol} (h : wrOE o = 0) (Z : List Nat) : candO (wrOB o ++ Z) = o := by
  obtain ⟨⟨f1, f2, f3, f4, f5, f6, f7⟩, hdi⟩ := wrOE_ok h
  by_cases h0 : o.ps.length = 0
  · rw [wrOB_co h h0]
    have hd := diB_iff.1 (hdi h0)
    obtain ⟨cs, ps⟩ := o
    have hps : ps = [] := List.length_eq_zero_iff.1 h0
    subst hps
    dsimp only at *
    unfold coB
    simp only [List.append_assoc]
    have v0 : V8 (be2 (cs.length : Int)) = cs.length := by rw [V8_be2i' (by omega) (by omega), Int.toNat_natCast]
    have hsx : sx16 cs.length = (cs.length : Int) := by unfold sx16; rw [if_neg (by omega)]
    unfold candO
    rw [hd2_be2, drop_be2, v0, hsx, if_neg (by omega), if_pos (by omega), Int.toNat_natCast]
    obtain ⟨_, hC⟩ := co_back f4 f5 hd Z (s := _) rfl
    unfold candC
    rw [hC]
  · rw [wrOB_pa h h0]
    obtain ⟨cs, ps⟩ := o
    have hcs : cs = [] := List.length_eq_zero_iff.1 (by rcases f1 with f1 | f1; exact f1; exact absurd f1 h0)
    subst hcs
    dsimp only at *
    have v0 : V8 (be2 (ps.length : Int)) = ps.length := by rw [V8_be2i' (by omega) (by omega), Int.toNat_natCast]
    unfold paB candO
    simp only [List.append_assoc]
    have e1 : hd2 ([255, 255] ++ (be2 (ps.length : Int) ++ (ps.flatMap paE ++ Z))) = 65535 := rfl
    have e2 : ([255, 255] ++ (be2 (ps.length : Int) ++ (ps.flatMap paE ++ Z))).drop 2 = be2 (ps.length : Int) ++ (ps.flatMap paE ++ Z) := rfl
    rw [e1, e2, if_pos (by decide)]
    unfold candP
    rw [hd2_be2, drop_be2, v0, show min ps.length 7 = ps.length by omega, psR_back ps f7]

end Go.Proofs.Ytngmcghmniakeaa

namespace Go.Proofs.Ytngmcghmniakeaa
set_option linter.unusedSimpArgs false
set_option linter.unusedVariables false

/-- What bytes are read as. -/
def rdOk (b : List Nat) : Bool := decide (wrOE (candO b) = 0) && decide (wrOB (candO b) = b)
def rdOL (b : List Nat) : Ol := if rdOk b then candO b else Ol.none
def rdOE (b : List Nat) : Int := if rdOk b then 0 else 2
theorem rdOk_iff {b : List Nat} : rdOk b = true ↔ wrOE (candO b) = 0 ∧ wrOB (candO b) = b := by
  unfold rdOk
  rw [Bool.and_eq_true, decide_eq_true_iff, decide_eq_true_iff]
theorem rdO_back {o : Ol} (h : wrOE o = 0) : rdOk (wrOB o) = true ∧ candO (wrOB o) = o := by
  have e := cand_back h []
  rw [List.append_nil] at e
  exact ⟨rdOk_iff.2 (by rw [e]; exact ⟨h, rfl⟩), e⟩
theorem rdO_of {b : List Nat} {o : Ol} (h : wrOE o = 0) (hb : wrOB o = b) : rdOk b = true ∧ candO b = o := by
  rw [← hb]
  exact rdO_back h
/-- No beginning of an outline's bytes is an outline's, and none with bytes behind it. -/
theorem rdO_more {o : Ol} (h : wrOE o = 0) {Z : List Nat} (hZ : Z ≠ []) : rdOk (wrOB o ++ Z) = false := by
  rw [Bool.eq_false_iff]
  intro e
  obtain ⟨h1, h2⟩ := rdOk_iff.1 e
  rw [cand_back h Z] at h2
  have := congrArg List.length h2
  rw [List.length_append] at this
  exact hZ (List.length_eq_zero_iff.1 (by omega))
theorem rdO_cut {o : Ol} (h : wrOE o = 0) {j : Nat} (hj : j < (wrOB o).length) : rdOk ((wrOB o).take j) = false := by
  rw [Bool.eq_false_iff]
  intro e
  obtain ⟨h1, h2⟩ := rdOk_iff.1 e
  have h3 := rdO_more h1 (Z := (wrOB o).drop j) (by intro e; have := congrArg List.length e; rw [List.length_drop] at this; simp at this; omega)
  rw [h2, List.take_append_drop, (rdO_back h).1] at h3
  cases h3
theorem wrOE_cases (o : Ol) : (wrOE o = 0 ∧ foB o = true) ∨ (wrOE o = 1 ∧ foB o = false ∧ wrOB o = []) ∨ (wrOE o = 4 ∧ foB o = true ∧ o.ps.length = 0 ∧ diB o.cs.flatten = false ∧ wrOB o = []) := by
  unfold wrOE wrOB
  cases h1 : foB o with
  | false => exact .inr (.inl ⟨rfl, rfl, rfl⟩)
  | true =>
    by_cases h2 : o.ps.length = 0
    · cases h3 : diB o.cs.flatten with
      | true => exact .inl ⟨by simp [h2], rfl⟩
      | false => exact .inr (.inr ⟨by simp [h2], rfl, h2, rfl, by simp [h2]⟩)
    · exact .inl ⟨by simp [h2], rfl⟩
/-- A step that is no field lies between two points. -/
theorem step_out {o : Ol} (hf : foB o = true) (hd : diB o.cs.flatten = false) : ∃ i, 0 < i ∧ i < o.cs.flatten.length ∧
    ¬ ((-32768 ≤ (o.cs.flatten.getD i Pn.none).x - (o.cs.flatten.getD (i - 1) Pn.none).x ∧ (o.cs.flatten.getD i Pn.none).x - (o.cs.flatten.getD (i - 1) Pn.none).x ≤ 32767) ∧ (-32768 ≤ (o.cs.flatten.getD i Pn.none).y - (o.cs.flatten.getD (i - 1) Pn.none).y ∧ (o.cs.flatten.getD i Pn.none).y - (o.cs.flatten.getD (i - 1) Pn.none).y ≤ 32767)) := by
  have hfo := (foB_iff.1 hf).2.2.2.2.2.1
  generalize o.cs.flatten = l at *
  have h1 : ¬ ∀ t ∈ difs 0 0 l, (-32768 ≤ t.1 ∧ t.1 ≤ 32767) ∧ (-32768 ≤ t.2.1 ∧ t.2.1 ≤ 32767) := by
    rw [← diB_iff, hd]
    decide
  rcases Classical.em (∃ i, 0 < i ∧ i < l.length ∧ ¬ ((-32768 ≤ (l.getD i Pn.none).x - (l.getD (i - 1) Pn.none).x ∧ (l.getD i Pn.none).x - (l.getD (i - 1) Pn.none).x ≤ 32767) ∧ (-32768 ≤ (l.getD i Pn.none).y - (l.getD (i - 1) Pn.none).y ∧ (l.getD i Pn.none).y - (l.getD (i - 1) Pn.none).y ≤ 32767))) with h | h
  · exact h
  · refine absurd (fun t ht => ?_) h1
    obtain ⟨i, hi, e⟩ := List.getElem_of_mem ht
    rw [difs_len] at hi
    have hg := difs_get l 0 0 i hi
    rw [List.getD_eq_getElem?_getD, List.getElem?_eq_getElem (by rw [difs_len]; exact hi), Option.getD_some, e] at hg
    rw [hg]
    by_cases h0 : i = 0
    · subst h0
      have := hfo (l.getD 0 Pn.none) (by rw [List.getD_eq_getElem?_getD, List.getElem?_eq_getElem hi]; exact List.getElem_mem hi)
      simpa using this
    · rcases Classical.em ((-32768 ≤ (l.getD i Pn.none).x - (l.getD (i - 1) Pn.none).x ∧ (l.getD i Pn.none).x - (l.getD (i - 1) Pn.none).x ≤ 32767) ∧ (-32768 ≤ (l.getD i Pn.none).y - (l.getD (i - 1) Pn.none).y ∧ (l.getD i Pn.none).y - (l.getD (i - 1) Pn.none).y ≤ 32767)) with h2 | h2
      · simpa [h0] using h2
      · exact absurd ⟨i, by omega, hi, h2⟩ h
/-- All bytes are bytes, and there are few. -/
theorem byt_rl : ∀ (k : Nat) (l : List Int), l.length = k → (∀ x ∈ l, 0 ≤ x ∧ x < 64) → Byt (rl l) ∧ (rl l).length ≤ 2 * l.length := by
  intro k
  induction k using Nat.strongRecOn with
  | ind k ih =>
    intro l hk hl
    by_cases h0 : l = []
    · subst h0; exact ⟨Byt.nil, Nat.le_refl _⟩
    have hpos : 0 < l.length := List.length_pos_iff.2 h0
    have hx := hl (l.getD 0 0) (by rw [List.getD_eq_getElem?_getD, List.getElem?_eq_getElem hpos]; exact List.getElem_mem hpos)
    have r1 := rn_pos (c := Int.toNat) (M := 256) (by omega) h0
    obtain ⟨r2, r3⟩ := rn_le (c := Int.toNat) (M := 256) l
    obtain ⟨i1, i2⟩ := ih (l.drop (rn Int.toNat 256 l)).length (by rw [List.length_drop]; omega) _ rfl (fun x hx => hl x (List.mem_of_mem_drop hx))
    rw [List.length_drop] at i2
    rw [rl_cons h0]
    split
    · refine ⟨Byt.append (fun y hy => ?_) i1, by rw [List.length_append, List.length_singleton]; omega⟩
      rw [List.mem_singleton.1 hy]
      omega
    · refine ⟨Byt.append (fun y hy => ?_) i1, by rw [List.length_append]; simp only [List.length_cons, List.length_nil]; omega⟩
      rcases List.mem_cons.1 hy with hy | hy
      · rw [hy]; omega
      · rw [List.mem_singleton.1 hy]; omega
theorem flL_lim (l : List Pn) : ∀ x ∈ flL l, 0 ≤ x ∧ x < 64 := by
  intro x hx
  unfold flL at hx
  obtain ⟨t, _, rfl⟩ := List.mem_map.1 hx
  have := (flg_bits t).1
  omega
theorem flL_len (l : List Pn) : (flL l).length = l.length := by unfold flL; rw [List.length_map, difs_len]
theorem flat2 {α : Type} {f : α → List Nat} (h : ∀ x, (f x).length ≤ 2) (m : List α) : (m.flatMap f).length ≤ 2 * m.length := by
  induction m with
  | nil => simp
  | cons x t ih => have := h x; rw [List.flatMap_cons, List.length_append, List.length_cons]; omega
theorem byt_flat {α : Type} {f : α → List Nat} (h : ∀ x, Byt (f x)) (m : List α) : Byt (m.flatMap f) := by
  intro y hy
  obtain ⟨x, _, hx⟩ := List.mem_flatMap.1 hy
  exact h x y hx
theorem byt_coB (cs : List (List Pn)) : Byt (coB cs) ∧ (coB cs).length ≤ 2 + 2 * cs.length + 6 * cs.flatten.length := by
  unfold coB
  obtain ⟨r1, r2⟩ := byt_rl _ (flL cs.flatten) rfl (flL_lim _)
  rw [flL_len] at r2
  have x2 := flat2 (f := fun t : Int × Int × Bool => axB t.1) (fun t => axB_len _) (difs 0 0 cs.flatten)
  have y2 := flat2 (f := fun t : Int × Int × Bool => axB t.2.1) (fun t => axB_len _) (difs 0 0 cs.flatten)
  have e2 := flat2 (f := be2) (fun t => by simp [be2]) (endF 0 cs)
  rw [difs_len] at x2 y2
  rw [endF_len] at e2
  refine ⟨(byt_be2 _).append ((byt_flat byt_be2 _).append (r1.append ((byt_flat (fun t => byt_axB _) _).append (byt_flat (fun t => byt_axB _) _)))), ?_⟩
  simp only [List.length_append]
  have : (be2 (cs.length : Int)).length = 2 := rfl
  omega
theorem byt_paB (ps : List Pa) : Byt (paB ps) ∧ (paB ps).length = 4 + 6 * ps.length := by
  unfold paB
  refine ⟨Byt.append (fun y hy => by simp at hy; omega) ((byt_be2 _).append (byt_flat (fun p => (byt_be2 _).append ((byt_be2 _).append (byt_be2 _))) _)), ?_⟩
  have : ∀ l : List Pa, (l.flatMap paE).length = 6 * l.length := by
    intro l
    induction l with
    | nil => rfl
    | cons p t ih =>
      have e : (paE p).length = 6 := rfl
      rw [List.flatMap_cons, List.length_append, ih, e, List.length_cons]
      omega
  simp only [List.length_append, this]
  have : (be2 (ps.length : Int)).length = 2 := rfl
  simp only [List.length_cons, List.length_nil]
  omega
theorem byt_wrOB (o : Ol) : Byt (wrOB o) ∧ (wrOB o).length ≤ 600 := by
  unfold wrOB
  split
  · rename_i h
    obtain ⟨f1, f2, f3, f4, f5, f6, f7⟩ := foB_iff.1 h
    split
    · split
      · exact ⟨(byt_coB _).1, by have := (byt_coB o.cs).2; omega⟩
      · exact ⟨Byt.nil, Nat.zero_le _⟩
    · exact ⟨(byt_paB _).1, by have := (byt_paB o.ps).2; omega⟩
  · exact ⟨Byt.nil, Nat.zero_le _⟩
theorem wrOB_two {o : Ol} (h : wrOE o = 0) : 2 ≤ (wrOB o).length := by
  by_cases h0 : o.ps.length = 0
  · rw [wrOB_co h h0]
    unfold coB
    rw [List.length_append]
    have : (be2 (o.cs.length : Int)).length = 2 := rfl
    omega
  · rw [wrOB_pa h h0, (byt_paB _).2]
    omega
/-- One flag ahead of others. -/
theorem rn_one {x y : Int} {t : List Int} (h : x.toNat ≠ y.toNat) : rn Int.toNat 256 (x :: y :: t) = 1 := by
  rw [rn, List.takeWhile_cons, if_neg (by simpa using fun e => h e.symm)]
  rfl
theorem rn_like {x y : Int} {t : List Int} (h : x.toNat = y.toNat) (hl : (x :: y :: t).length ≤ 256) : rn Int.toNat 256 (x :: y :: t) = 1 + rn Int.toNat 256 (y :: t) := by
  have h1 := takeWhile_le (fun z : Int => z.toNat == y.toNat) t
  simp only [List.length_cons] at hl
  rw [rn, rn, List.takeWhile_cons, if_pos (by simp [h]), List.length_cons, h]
  omega
theorem rl_ahead {x : Int} {F : List Int} (hl : (x :: F).length ≤ 256) : (rl F).length ≤ (rl (x :: F)).length ∧ (rl (x :: F)).length ≤ (rl F).length + 1 := by
  cases F with
  | nil =>
    rw [rl_cons (l := [x]) (by simp)]
    simp [rn, rl_nil]
  | cons y t =>
    by_cases h : x.toNat = y.toNat
    · have h1 := rn_like h hl
      have h2 := rn_pos (c := Int.toNat) (M := 256) (by omega) (l := y :: t) (by simp)
      have e1 := rl_cons (l := x :: y :: t) (by simp)
      rw [h1, if_neg (by omega), show (x :: y :: t).drop (1 + rn Int.toNat 256 (y :: t)) = (y :: t).drop (rn Int.toNat 256 (y :: t)) by rw [Nat.add_comm]; rfl] at e1
      rw [e1, rl_cons (l := y :: t) (by simp)]
      simp only [List.length_append]
      split <;> simp only [List.length_cons, List.length_nil] <;> omega
    · rw [rl_cons (l := x :: y :: t) (by simp), rn_one h, if_pos rfl]
      show (rl (y :: t)).length ≤ ([_] ++ rl (y :: t)).length ∧ ([_] ++ rl (y :: t)).length ≤ _
      simp only [List.length_append, List.length_cons, List.length_nil]
      omega
/-- All points moved alike. -/
def mvO (u v : Int) (cs : List (List Pn)) : List (List Pn) := cs.map (fun c => c.map (mvP u v))
theorem mvO_flat (u v : Int) (cs : List (List Pn)) : (mvO u v cs).flatten = cs.flatten.map (mvP u v) := by
  unfold mvO
  rw [List.map_flatten]
theorem mvO_ends (u v : Int) : ∀ (cs : List (List Pn)) (n : Int), endF n (mvO u v cs) = endF n cs := by
  intro cs
  induction cs with
  | nil => intro n; rfl
  | cons c t ih =>
    intro n
    have := ih (n + (c.length : Int))
    unfold mvO at this ⊢
    rw [List.map_cons, endF, endF, List.length_map, this]
theorem difs_mv (u v : Int) : ∀ (l : List Pn) (a b : Int), difs (a + u) (b + v) (l.map (mvP u v)) = difs a b l := by
  intro l
  induction l with
  | nil => intro a b; rfl
  | cons p t ih =>
    intro a b
    rw [List.map_cons, difs, difs]
    have := ih p.x p.y
    show (p.x + u - (a + u), p.y + v - (b + v), p.on) :: difs (p.x + u) (p.y + v) (t.map (mvP u v)) = _
    rw [this, show p.x + u - (a + u) = p.x - a by omega, show p.y + v - (b + v) = p.y - b by omega]
theorem coB_mv (u v : Int) (cs : List (List Pn)) (hl : cs.flatten.length ≤ 80) : (coB cs).length ≤ (coB (mvO u v cs)).length + 6 ∧ (coB (mvO u v cs)).length ≤ (coB cs).length + 6 := by
  unfold coB
  rw [mvO_ends, mvO_flat]
  have e0 : (be2 ((mvO u v cs).length : Int)).length = (be2 (cs.length : Int)).length := rfl
  simp only [List.length_append, e0]
  generalize cs.flatten = l at *
  cases l with
  | nil => simp
  | cons p t =>
    have hd : difs (p.x + u) (p.y + v) (t.map (mvP u v)) = difs p.x p.y t := difs_mv u v t p.x p.y
    have e1 : difs 0 0 ((p :: t).map (mvP u v)) = (p.x + u - 0, p.y + v - 0, p.on) :: difs p.x p.y t := by
      rw [List.map_cons, difs]
      show (p.x + u - 0, p.y + v - 0, p.on) :: difs (p.x + u) (p.y + v) (t.map (mvP u v)) = _
      rw [hd]
    have e2 : difs 0 0 (p :: t) = (p.x - 0, p.y - 0, p.on) :: difs p.x p.y t := rfl
    unfold flL
    rw [e1, e2]
    simp only [List.map_cons, List.flatMap_cons, List.length_append]
    have hL : ((difs p.x p.y t).map (fun t => (flg t : Int))).length = t.length := by rw [List.length_map, difs_len]
    have hl' : t.length + 1 ≤ 80 := by simpa using hl
    have r1 := rl_ahead (x := (flg (p.x - 0, p.y - 0, p.on) : Int)) (F := (difs p.x p.y t).map (fun t => (flg t : Int))) (by rw [List.length_cons, hL]; omega)
    have r2 := rl_ahead (x := (flg (p.x + u - 0, p.y + v - 0, p.on) : Int)) (F := (difs p.x p.y t).map (fun t => (flg t : Int))) (by rw [List.length_cons, hL]; omega)
    have a1 := axB_len (p.x - 0)
    have a2 := axB_len (p.y - 0)
    have a3 := axB_len (p.x + u - 0)
    have a4 := axB_len (p.y + v - 0)
    omega
/-- What 'awake' is about. -/
theorem aw12 : wrOE ⟨[[⟨10, 0, true⟩]], []⟩ = 0 ∧ wrOB ⟨[[⟨10, 0, true⟩]], []⟩ = [0, 1, 0, 0, 51, 10] := by decide +kernel

end Go.Proofs.Ytngmcghmniakeaa

namespace Go.Proofs.Ytngmcghmniakeaa
open Go.RowKit Go.Maps
set_option linter.unusedSimpArgs false
set_option linter.unusedVariables false

def PnE : El Pn := (El.int.cat (El.int.cat El.bool)).via (fun p => (p.x, p.y, p.on)) Pn.none
def PaE : El Pa := (El.int.cat (El.int.cat El.int)).via (fun p => (p.g, p.dx, p.dy)) Pa.none
def PnW (p : Pn) : Prop := I64 p.x ∧ I64 p.y
def PaW (p : Pa) : Prop := I64 p.g ∧ I64 p.dx ∧ I64 p.dy
def pnC (p : Pn) : List Value := [.int .i64 p.x, .int .i64 p.y, .bool p.on]
def paC (p : Pa) : List Value := [.int .i64 p.g, .int .i64 p.dx, .int .i64 p.dy]
theorem PnE_rep {S : Nat → Prop} {w : World} {vs : List Value} {p : Pn} : PnE.rep S w vs p ↔ vs = pnC p ∧ PnW p := by
  constructor
  · rintro ⟨us, ts, rfl, ⟨rfl, h1⟩, us2, ts2, rfl, ⟨rfl, h2⟩, h3⟩
    have h3 : ts2 = [.bool p.on] := h3
    subst h3
    exact ⟨rfl, h1, h2⟩
  · rintro ⟨rfl, h1, h2⟩
    exact ⟨[_], _, rfl, ⟨rfl, h1⟩, [_], [_], rfl, ⟨rfl, h2⟩, rfl⟩
theorem PaE_rep {S : Nat → Prop} {w : World} {vs : List Value} {p : Pa} : PaE.rep S w vs p ↔ vs = paC p ∧ PaW p := by
  constructor
  · rintro ⟨us, ts, rfl, ⟨rfl, h1⟩, us2, ts2, rfl, ⟨rfl, h2⟩, ⟨rfl, h3⟩⟩
    exact ⟨rfl, h1, h2, h3⟩
  · rintro ⟨rfl, h1, h2, h3⟩
    exact ⟨[_], _, rfl, ⟨rfl, h1⟩, [_], [_], rfl, ⟨rfl, h2⟩, ⟨rfl, h3⟩⟩
theorem Gr.pn {S : Nat → Prop} {w wr : World} {a : Option Addr} {cap : Nat} {l : List Pn} (h : Gr PnE S w a cap l) (hb : Below w.heap.size w wr) (k : Nat) (hk : k < l.length) :
    ∃ b off, a = some ⟨b, off, none⟩ ∧ b < w.heap.size ∧ PnW (l.getD k Pn.none) ∧ wr.cell? ⟨b, off + k * 3, none⟩ = some (.int .i64 (l.getD k Pn.none).x) ∧ wr.cell? ⟨b, off + k * 3 + 1, none⟩ = some (.int .i64 (l.getD k Pn.none).y) ∧ wr.cell? ⟨b, off + k * 3 + 2, none⟩ = some (.bool (l.getD k Pn.none).on) := by
  obtain ⟨b, off, vs, e, hl, hr, hc⟩ := h.at hb k hk
  obtain ⟨rfl, hw⟩ := PnE_rep.1 hr
  exact ⟨b, off, e, hl, hw, hc 0 (by decide), hc 1 (by decide), hc 2 (by decide)⟩
theorem Gr.pa {S : Nat → Prop} {w wr : World} {a : Option Addr} {cap : Nat} {l : List Pa} (h : Gr PaE S w a cap l) (hb : Below w.heap.size w wr) (k : Nat) (hk : k < l.length) :
    ∃ b off, a = some ⟨b, off, none⟩ ∧ b < w.heap.size ∧ PaW (l.getD k Pa.none) ∧ wr.cell? ⟨b, off + k * 3, none⟩ = some (.int .i64 (l.getD k Pa.none).g) ∧ wr.cell? ⟨b, off + k * 3 + 1, none⟩ = some (.int .i64 (l.getD k Pa.none).dx) ∧ wr.cell? ⟨b, off + k * 3 + 2, none⟩ = some (.int .i64 (l.getD k Pa.none).dy) := by
  obtain ⟨b, off, vs, e, hl, hr, hc⟩ := h.at hb k hk
  obtain ⟨rfl, hw⟩ := PaE_rep.1 hr
  exact ⟨b, off, e, hl, hw, hc 0 (by decide), hc 1 (by decide), hc 2 (by decide)⟩
/-- An element of a row of rows. -/
theorem Gr.rw {α : Type} {E : El α} {S : Nat → Prop} {w wr : World} {a : Option Addr} {cap : Nat} {m : List (List α)} (h : Gr E.row S w a cap m) (hb : Below w.heap.size w wr) (k : Nat) (hk : k < m.length) :
    ∃ b off a' cap', a = some ⟨b, off, none⟩ ∧ b < w.heap.size ∧ wr.cell? ⟨b, off + k, none⟩ = some (.slice a' (m.getD k []).length cap') ∧ Gr E S wr a' cap' (m.getD k []) ∧ (m.getD k []).length ≤ 140737488351232 ∧ ∀ b o, a' = some ⟨b, o, none⟩ → m.getD k [] ≠ [] → S b := by
  obtain ⟨b, off, vs, e, hl, ⟨a', cap', hv, hS, hr, hlb⟩, hc⟩ := h.at hb k hk
  have := hc 0 Nat.one_pos
  rw [hv, show k * E.row.sz = k from Nat.mul_one k] at this
  exact ⟨b, off, a', cap', e, hl, this, hr, hlb, hS⟩
/-- A row of rows, element by element, with no world told. -/
theorem getL' {α : Type} {m : List (List α)} {k : Nat} (hk : k < m.length) : m.getD k [] = m[k] := by simp [List.getD, hk]
theorem getL_mem' {α : Type} {m : List (List α)} {k : Nat} (hk : k < m.length) : m.getD k [] ∈ m := by rw [getL' hk]; exact List.getElem_mem hk
theorem get_mem {α : Type} {m : List α} {d : α} {k : Nat} (hk : k < m.length) : m.getD k d ∈ m := by rw [List.getD_eq_getElem?_getD, List.getElem?_eq_getElem hk]; exact List.getElem_mem hk
theorem of_get {α : Type} {p : α → Prop} {d : α} {m : List α} (h : ∀ k, k < m.length → p (m.getD k d)) : ∀ x ∈ m, p x := by
  intro x hx
  obtain ⟨i, hi, e⟩ := List.getElem_of_mem hx
  have := h i hi
  rw [List.getD_eq_getElem?_getD, List.getElem?_eq_getElem hi, Option.getD_some, e] at this
  exact this
theorem take_snoc {α : Type} {m : List α} {d : α} {k : Nat} (hk : k < m.length) : m.take (k + 1) = m.take k ++ [m.getD k d] := by
  rw [List.take_add_one, List.getElem?_eq_getElem hk]
  simp [List.getD, hk]
theorem info_pn : (Try.prog.info? 52).map (fun i => (i.zero, i.size, i.bytes)) = some (some (.agg #[.int .i64 0, .int .i64 0, .bool false]), 3, 24) := by kernel_rfl
theorem info_pa : (Try.prog.info? 65).map (fun i => (i.zero, i.size, i.bytes)) = some (some (.agg #[.int .i64 0, .int .i64 0, .int .i64 0]), 3, 24) := by kernel_rfl
theorem info_pns : (Try.prog.info? 53).map (fun i => (i.zero, i.size, i.bytes)) = some (some (.slice none 0 0), 1, 24) := by kernel_rfl

end Go.Proofs.Ytngmcghmniakeaa
