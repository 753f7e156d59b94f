/-
  Lookups that move glyphs, with numbers that do not change: what comes of them (plain mathematics).
  foundrylaw21.awake: the walk.
  foundryref21.Lay: the walk.
  What a law is told of a slice of bytes, or of int32, that came in.
  What a law is told of a list of ints that came in.
-/
import Derived.Test.YtchdoakoelfenaaZJ2
import Derived.Test.YtchdoakoelfenaaZJ19
import Derived.Test.YtchdoakoelfenaaZJ24
import Derived.Test.YtchdoakoelfenaaZJ1
import Derived.ProofKit
import Derived.Test.YtchdoakoelfenaaZJ4
import Derived.Deep.Slices
import Derived.Lib.SmallJoins
import Derived.ChangeSame
namespace Go.Proofs.Ytchdoakoelfenaa
set_option linter.unusedSimpArgs false
set_option linter.unusedVariables false

/-- Two ways of reading a rule's numbers that agree. -/
def AgR (ro re ro' re' : Int × Int → Int) (r : Ru) : Prop := (ro r.x = ro' r.x ∧ ro r.y = ro' r.y ∧ ro r.w = ro' r.w) ∧ (re r.x = re' r.x ∧ re r.y = re' r.y ∧ re r.w = re' r.w)
theorem on_congr {ro re ro' re' : Int × Int → Int} {ms : List Bool} {x : Lk} {P : List Pd} {i : Nat} (h : ∀ r ∈ x.rs, AgR ro re ro' re' r) : onP ro re ms x P i = onP ro' re' ms x P i := by
  unfold onP
  split
  · rfl
  · cases hf : fsR ms x.kd x.sk (naL P) i x.rs with
    | none => rfl
    | some q =>
      obtain ⟨r, nx, b⟩ := q
      obtain ⟨⟨a1, a2, a3⟩, b1, b2, b3⟩ := h r (fsR_of hf).1
      show (if re r.x = 0 ∧ re r.y = 0 ∧ re r.w = 0 then some (P.set i (mvP x.kd P i b.toNat (ro r.x) (ro r.y) (ro r.w)), nx) else none) = (if re' r.x = 0 ∧ re' r.y = 0 ∧ re' r.w = 0 then some (P.set i (mvP x.kd P i b.toNat (ro' r.x) (ro' r.y) (ro' r.w)), nx) else none)
      rw [a1, a2, a3, b1, b2, b3]
theorem ru_congr {ro re ro' re' : Int × Int → Int} {ms : List Bool} {x : Lk} (h : ∀ r ∈ x.rs, AgR ro re ro' re' r) : ∀ (n : Nat) (P : List Pd) (i : Int), ruF20 ro re ms x n P i = ruF20 ro' re' ms x n P i := by
  intro n
  induction n with
  | zero => intro P i; rfl
  | succ n ih =>
    intro P i
    rw [ruF20, ruF20, on_congr h]
    split
    · cases onP ro' re' ms x P i.toNat with
      | none => rfl
      | some q => exact ih q.1 q.2
    · rfl
theorem al_congr {ro re ro' re' : Int × Int → Int} {ms : List Bool} {l : List Lk} (h : ∀ x ∈ l, ∀ r ∈ x.rs, AgR ro re ro' re' r) : ∀ (ks : List Int) (P : List Pd), alM ro re ms l ks P = alM ro' re' ms l ks P := by
  intro ks
  induction ks with
  | nil => intro P; rfl
  | cons k t ih =>
    intro P
    rw [alM, alM]
    by_cases hk : 0 ≤ k ∧ k < (l.length : Int)
    · rw [if_pos hk, if_pos hk]
      have hm : l.getD k.toNat Lk.none ∈ l := by
        have hl : k.toNat < l.length := by omega
        rw [List.getD_eq_getElem?_getD, List.getElem?_eq_getElem hl]
        exact List.getElem_mem hl
      have e : ruQ ro re ms (l.getD k.toNat Lk.none) P 0 = ruQ ro' re' ms (l.getD k.toNat Lk.none) P 0 := ru_congr (h _ hm) _ _ _
      rw [e]
      split
      · cases ruQ ro' re' ms (l.getD k.toNat Lk.none) P 0 with
        | none => rfl
        | some Q => exact ih Q
      · exact ih P
    · rw [if_neg hk, if_neg hk]
theorem pa_congr {fi : Int → Int → Bool} {ro re ro' re' : Int × Int → Int} {ms : List Bool} {l : List Lk} (h : ∀ x ∈ l, ∀ r ∈ x.rs, AgR ro re ro' re' r) (ks : List Int) (P : List Pd) : paE fi ro re ms l ks P = paE fi ro' re' ms l ks P := by
  unfold paE
  rw [al_congr h]
/-- Numbers that do not change. -/
def rI (p : Int × Int) : Int := p.1
def rZ (p : Int × Int) : Int := 0
/-- A rule of such numbers. -/
def ruJ (inn : List Int) (x y w : Int) : Ru := ⟨inn, [], 0, 0, (x, -1), (y, -1), (w, -1)⟩
theorem ag_flat {ro re : Int × Int → Int} {inn : List Int} {x y w : Int} (h : ∀ z, z = x ∨ z = y ∨ z = w → ro (z, -1) = z ∧ re (z, -1) = 0) : AgR ro re rI rZ (ruJ inn x y w) :=
  ⟨⟨(h x (.inl rfl)).1, (h y (.inr (.inl rfl))).1, (h w (.inr (.inr rfl))).1⟩, (h x (.inl rfl)).2, (h y (.inr (.inl rfl))).2, (h w (.inr (.inr rfl))).2⟩

/-- What stands ahead of a law: is anything done at all? -/
def awJ : List Lk := [⟨6, false, [ruJ [1, 2] 0 0 (-50)]⟩]

/-- Two Moves. -/
def adJ (a b : Int) : List Lk := [⟨5, false, [ruJ [3] a 1 2]⟩, ⟨5, false, [ruJ [3] b 0 (-7)]⟩]
def stJ (a b : Int) (k : Int) : Pd → Pd := if k = 0 then adP 3 a 1 2 else adP 3 b 0 (-7)
theorem ad_al {a b : Int} {ms : List Bool} : ∀ (ks : List Int) (P : List Pd), (∀ k ∈ ks, k = 0 ∨ k = 1) → alM rI rZ ms (adJ a b) ks P = (0, P.map (fun p => ks.foldl (fun q k => stJ a b k q) p)) := by
  intro ks
  induction ks with
  | nil => intro P _; rw [alM]; simp
  | cons k t ih =>
    intro P hk
    have ht := ih (P.map (stJ a b k)) (fun j hj => hk j (List.mem_cons_of_mem _ hj))
    have hq : alM rI rZ ms (adJ a b) (k :: t) P = alM rI rZ ms (adJ a b) t (P.map (stJ a b k)) := by
      rcases hk k (List.mem_cons_self ..) with rfl | rfl
      · rw [alM, if_pos ⟨by decide, by show (0 : Int) < 2; decide⟩]
        have e : ruQ rI rZ ms ((adJ a b).getD (0 : Int).toNat Lk.none) P 0 = some (P.map (stJ a b 0)) := ruQ_move (r := ruJ [3] a 1 2) rfl rfl rfl rfl P
        rw [e]
        rfl
      · rw [alM, if_pos ⟨by decide, by show (1 : Int) < 2; decide⟩]
        have e : ruQ rI rZ ms ((adJ a b).getD (1 : Int).toNat Lk.none) P 0 = some (P.map (stJ a b 1)) := ruQ_move (r := ruJ [3] b 0 (-7)) rfl rfl rfl rfl P
        rw [e]
        rfl
    rw [hq, ht, List.map_map]
    rfl
theorem ad_fo {fi : Int → Int → Bool} {a b : Int} (h : ∀ z, -128 ≤ z → z ≤ 127 → fi z (-1) = true) (ha : -128 ≤ a ∧ a ≤ 127) (hb : -128 ≤ b ∧ b ≤ 127) : foM20 fi (adJ a b) 65536 = true := by
  have h1 := h a ha.1 ha.2
  have h2 := h b hb.1 hb.2
  have h3 := h 1 (by decide) (by decide)
  have h4 := h 2 (by decide) (by decide)
  have h5 := h 0 (by decide) (by decide)
  have h6 := h (-7) (by decide) (by decide)
  simp [foM20, adJ, plF, mvB, prB, ruJ, inN, gyB, h1, h2, h3, h4, h5, h6]
/-- What comes of a glyph. -/
theorem ad_other {a b : Int} {g : Int} (hg : g ≠ 3) : ∀ (ks : List Int), ks.foldl (fun q k => stJ a b k q) (⟨g, 0, 0, 0⟩ : Pd) = ⟨g, 0, 0, 0⟩ := by
  intro ks
  induction ks with
  | nil => rfl
  | cons k t ih =>
    rw [List.foldl_cons]
    have e : stJ a b k ⟨g, 0, 0, 0⟩ = ⟨g, 0, 0, 0⟩ := by
      unfold stJ adP
      split <;> exact if_neg hg
    rw [e]
    exact ih
theorem ad_st0 {a b x y w : Int} (hx : -100000 ≤ x + a ∧ x + a ≤ 100000) (hy : -1000 ≤ y ∧ y ≤ 1000) (hw : -1000 ≤ w ∧ w ≤ 1000) : stJ a b 0 ⟨3, x, y, w⟩ = ⟨3, x + a, y + 1, w + 2⟩ := by
  unfold stJ adP
  rw [if_pos rfl, if_pos rfl]
  show (⟨3, w6 (x + a), w6 (y + 1), w6 (w + 2)⟩ : Pd) = _
  rw [w6_id (by omega) (by omega), w6_id (by omega) (by omega), w6_id (by omega) (by omega)]
theorem ad_st1 {a b x y w : Int} (hx : -100000 ≤ x + b ∧ x + b ≤ 100000) (hy : -1000 ≤ y ∧ y ≤ 1000) (hw : -1000 ≤ w ∧ w ≤ 1000) : stJ a b 1 ⟨3, x, y, w⟩ = ⟨3, x + b, y, w - 7⟩ := by
  unfold stJ adP
  rw [if_neg (by decide), if_pos rfl]
  show (⟨3, w6 (x + b), w6 (y + 0), w6 (w + -7)⟩ : Pd) = _
  rw [w6_id (by omega) (by omega), w6_id (by omega) (by omega), w6_id (by omega) (by omega), Int.add_zero]
  rfl
theorem ad_pq {a b : Int} (ha : -128 ≤ a ∧ a ≤ 127) (hb : -128 ≤ b ∧ b ≤ 127) : ([0, 1] : List Int).foldl (fun q k => stJ a b k q) (⟨3, 0, 0, 0⟩ : Pd) = ⟨3, a + b, 1, -5⟩ ∧ ([1, 0] : List Int).foldl (fun q k => stJ a b k q) (⟨3, 0, 0, 0⟩ : Pd) = ⟨3, a + b, 1, -5⟩ := by
  constructor
  · show stJ a b 1 (stJ a b 0 ⟨3, 0, 0, 0⟩) = _
    rw [ad_st0 (by omega) (by omega) (by omega), ad_st1 (by omega) (by omega) (by omega)]
    simp
  · show stJ a b 0 (stJ a b 1 ⟨3, 0, 0, 0⟩) = _
    rw [ad_st1 (by omega) (by omega) (by omega), ad_st0 (by omega) (by omega) (by omega)]
    simp
    omega
theorem ad_rep {a b : Int} (ha : -128 ≤ a ∧ a ≤ 127) : ∀ n : Nat, n ≤ 20 → (List.replicate n (0 : Int)).foldl (fun q k => stJ a b k q) (⟨3, 0, 0, 0⟩ : Pd) = ⟨3, (n : Int) * a, (n : Int), 2 * (n : Int)⟩ := by
  have key : ∀ n m : Nat, n + m ≤ 20 → (List.replicate n (0 : Int)).foldl (fun q k => stJ a b k q) (⟨3, (m : Int) * a, (m : Int), 2 * (m : Int)⟩ : Pd) = ⟨3, ((n + m : Nat) : Int) * a, ((n + m : Nat) : Int), 2 * ((n + m : Nat) : Int)⟩ := by
    intro n
    induction n with
    | zero => intro m hm; simp
    | succ n ih =>
      intro m hm
      rw [List.replicate_succ, List.foldl_cons]
      have hb : -2600 ≤ (m : Int) * a + a ∧ (m : Int) * a + a ≤ 2600 := by
        have e : (m : Int) * a + a = ((m : Int) + 1) * a := by rw [Int.add_mul, Int.one_mul]
        have h1 : ((m : Int) + 1) * a ≤ ((m : Int) + 1) * 127 := Int.mul_le_mul_of_nonneg_left ha.2 (by omega)
        have h2 : ((m : Int) + 1) * (-128) ≤ ((m : Int) + 1) * a := Int.mul_le_mul_of_nonneg_left ha.1 (by omega)
        rw [e]
        omega
      rw [ad_st0 (by omega) (by omega) (by omega)]
      have e1 : (m : Int) * a + a = ((m + 1 : Nat) : Int) * a := by rw [Int.natCast_add, Int.add_mul, Int.natCast_one, Int.one_mul]
      have e2 : (m : Int) + 1 = ((m + 1 : Nat) : Int) := rfl
      have e3 : 2 * (m : Int) + 2 = 2 * ((m + 1 : Nat) : Int) := by omega
      rw [e1, e2, e3, ih (m + 1) (by omega)]
      rw [show n + (m + 1) = n + 1 + m by omega]
  intro n hn
  have := key n 0 (by omega)
  simpa using this
/-- What comes of a line. -/
theorem ad_line {fi : Int → Int → Bool} {ro re : Int × Int → Int} {ms : List Bool} {a b : Int} {l : List Int} {ks : List Int} (hfi : ∀ z, -128 ≤ z → z ≤ 127 → fi z (-1) = true) (hro : ∀ z, -128 ≤ z → z ≤ 127 → ro (z, -1) = z ∧ re (z, -1) = 0) (ha : -128 ≤ a ∧ a ≤ 127) (hb : -128 ≤ b ∧ b ≤ 127) (hl : l.length ≤ 60) (hk : ∀ k ∈ ks, k = 0 ∨ k = 1) :
    paE fi ro re ms (adJ a b) ks (laL l []) = (0, l.map (fun g => ks.foldl (fun q k => stJ a b k q) ⟨g, 0, 0, 0⟩)) := by
  have hag : ∀ x ∈ adJ a b, ∀ r ∈ x.rs, AgR ro re rI rZ r := by
    intro x hx r hr
    unfold adJ at hx
    rcases List.mem_cons.1 hx with rfl | hx
    · rw [List.mem_singleton.1 hr]
      exact ag_flat (fun z hz => hro z (by omega) (by omega))
    · rw [List.mem_singleton.1 hx] at hr
      rw [List.mem_singleton.1 hr]
      exact ag_flat (fun z hz => hro z (by omega) (by omega))
  rw [pa_congr hag]
  unfold paE
  rw [ad_fo hfi ha hb, if_pos rfl, if_neg (by rw [laL_len]; omega), ad_al ks _ hk]
  have e : laL l [] = l.map (fun g => (⟨g, 0, 0, 0⟩ : Pd)) := by
    apply List.ext_getElem (by rw [laL_len, List.length_map])
    intro i h1 h2
    have h3 : i < l.length := by rw [laL_len] at h1; exact h1
    simp [laL, List.getD, h3]
  rw [e, List.map_map]
  rfl

/-- A mark that is anchored: the line, its widths. -/
def anG (n b i : Nat) : Int := if i = n - 1 then 3 else if b < i then 2 else 1
def anL (n b : Nat) : List Int := (List.range n).map (anG n b)
def anJ (x y : Int) : List Lk := [⟨7, false, [ruJ [1, 3] x y 0]⟩]
theorem anL_at {n b i : Nat} (hi : i < n) : (anL n b).getD i 0 = anG n b i := by simp [anL, List.getD, hi]
theorem anL_len (n b : Nat) : (anL n b).length = n := by simp [anL]
theorem an_fo {fi : Int → Int → Bool} {x y : Int} (h : ∀ z, -128 ≤ z → z ≤ 127 → fi z (-1) = true) (hx : -128 ≤ x ∧ x ≤ 127) (hy : -128 ≤ y ∧ y ≤ 127) : foM20 fi (anJ x y) 65536 = true := by
  have h1 := h x hx.1 hx.2
  have h2 := h y hy.1 hy.2
  have h5 := h 0 (by decide) (by decide)
  simp [foM20, anJ, plF, mvB, prB, ruJ, inN, gyB, h1, h2, h5]
/-- The sum of the widths from a place on. -/
def suW (ws : List Int) (b : Nat) : Nat → Int
  | 0 => 0
  | n + 1 => suW ws b n + ws.getD (b + n) 0
theorem suW_le {ws : List Int} (h : ∀ z ∈ ws, 0 ≤ z ∧ z ≤ 255) (b : Nat) : ∀ n, 0 ≤ suW ws b n ∧ suW ws b n ≤ 255 * (n : Int) := by
  intro n
  induction n with
  | zero => exact ⟨Int.le_refl _, Int.le_refl _⟩
  | succ n ih =>
    have hz : 0 ≤ ws.getD (b + n) 0 ∧ ws.getD (b + n) 0 ≤ 255 := by
      by_cases hl : b + n < ws.length
      · rw [List.getD_eq_getElem?_getD, List.getElem?_eq_getElem hl]
        exact h _ (List.getElem_mem hl)
      · rw [List.getD_eq_getElem?_getD, List.getElem?_eq_none (by omega)]
        exact ⟨by decide, by decide⟩
    rw [suW]
    omega
theorem suW_split (ws : List Int) (b : Nat) : ∀ n, suW ws 0 (b + n) = suW ws 0 b + suW ws b n := by
  intro n
  induction n with
  | zero => rw [suW]; simp
  | succ n ih =>
    rw [← Nat.add_assoc, suW, ih, suW, Nat.zero_add]
    omega
theorem adS_su {L ws : List Int} (b : Nat) : ∀ n, b + n ≤ L.length → adS (laL L ws) b n = suW ws b n := by
  intro n
  induction n with
  | zero => intro _; rfl
  | succ n ih =>
    intro h
    rw [adS, suW, ih (by omega), laL_at (by omega)]
theorem an_line {fi : Int → Int → Bool} {ro re : Int × Int → Int} {x y : Int} {ws : List Int} {m b : Nat} (hfi : ∀ z, -128 ≤ z → z ≤ 127 → fi z (-1) = true) (hro : ∀ z, -128 ≤ z → z ≤ 127 → ro (z, -1) = z ∧ re (z, -1) = 0) (hx : -128 ≤ x ∧ x ≤ 127) (hy : -128 ≤ y ∧ y ≤ 127) (hb : b < m) (hm : m < 40) (hw : ∀ z ∈ ws, 0 ≤ z ∧ z ≤ 255) (hl : ws.length = m + 1) :
    paE fi ro re [false, false, true, true] (anJ x y) [0] (laL (anL (m + 1) b) ws) = (0, (laL (anL (m + 1) b) ws).set m ⟨3, x - suW ws b (m - b), y, ws.getD m 0⟩) := by
  have hag : ∀ q ∈ anJ x y, ∀ r ∈ q.rs, AgR ro re rI rZ r := by
    intro q hq r hr
    unfold anJ at hq
    rw [List.mem_singleton.1 hq] at hr
    rw [List.mem_singleton.1 hr]
    exact ag_flat (fun z hz => hro z (by omega) (by omega))
  rw [pa_congr hag]
  have hP : (laL (anL (m + 1) b) ws).length = m + 1 := by rw [laL_len, anL_len]
  have hN : ∀ j, j < m + 1 → (naL (laL (anL (m + 1) b) ws)).getD j 0 = anG (m + 1) b j := fun j hj => by rw [naL_at, laL_at (by rw [anL_len]; exact hj)]; exact anL_at hj
  have gm : anG (m + 1) b m = 3 := by unfold anG; rw [if_pos (by omega)]
  have gb : anG (m + 1) b b = 1 := by unfold anG; rw [if_neg (by omega), if_neg (by omega)]
  have gt : ∀ j, b < j → j < m → anG (m + 1) b j = 2 := fun j h1 h2 => by unfold anG; rw [if_neg (by omega), if_pos h1]
  have gn : ∀ j, j < m → (3 : Int) ≠ anG (m + 1) b j := fun j h1 => by
    unfold anG
    rw [if_neg (by omega)]
    split <;> decide
  have hq := ruQ_anchor (ro := rI) (re := rZ) (ms := [false, false, true, true]) (r := ruJ [1, 3] x y 0) (P := laL (anL (m + 1) b) ws) (m := m) (b := b) (by rw [hP]) (fun j hj => by rw [hN j (by omega)]; exact gn j hj) (by rw [hN m (by omega), gm]; rfl) (by rw [hN m (by omega), gm]; decide) hb (by rw [hN b (by omega), gb]; decide) (fun j h1 h2 => by rw [hN j (by omega), gt j h1 h2]; decide) (by rw [hN b (by omega), gb]; rfl) rfl rfl rfl
  have hv : mvP 7 (laL (anL (m + 1) b) ws) m b (rI (ruJ [1, 3] x y 0).x) (rI (ruJ [1, 3] x y 0).y) (rI (ruJ [1, 3] x y 0).w) = ⟨3, x - suW ws b (m - b), y, ws.getD m 0⟩ := by
    have hs := suW_le hw b (m - b)
    have hz : 0 ≤ ws.getD m 0 ∧ ws.getD m 0 ≤ 255 := by
      rw [List.getD_eq_getElem?_getD, List.getElem?_eq_getElem (by omega)]
      exact hw _ (List.getElem_mem _)
    unfold mvP
    rw [if_pos rfl, if_pos rfl, adS_su b (m - b) (by rw [anL_len]; omega), laL_at (by rw [anL_len]; omega), laL_at (by rw [anL_len]; omega), anL_at (by omega), gm]
    show (⟨3, w6 (0 - suW ws b (m - b) + x), w6 (0 + y), w6 (ws.getD m 0 + 0)⟩ : Pd) = _
    rw [w6_id (by omega) (by omega), w6_id (by omega) (by omega), w6_id (by omega) (by omega)]
    congr 1 <;> omega
  rw [hv] at hq
  unfold paE
  rw [an_fo hfi hx hy, if_pos rfl, if_neg (by rw [hP]; omega), alM, if_pos ⟨by decide, by show (0 : Int) < 1; decide⟩]
  have e : ruQ rI rZ [false, false, true, true] ((anJ x y).getD (0 : Int).toNat Lk.none) (laL (anL (m + 1) b) ws) 0 = some ((laL (anL (m + 1) b) ws).set m ⟨3, x - suW ws b (m - b), y, ws.getD m 0⟩) := hq
  rw [e]
  rfl

end Go.Proofs.Ytchdoakoelfenaa

namespace Go.Proofs.Ytchdoakoelfenaa
open Go.RowKit Go.Maps
set_option linter.unusedSimpArgs false
set_option linter.unusedVariables false

theorem Bk.ten21 {t : TypeId} {w : World} {g : Nat} {x0 x1 x2 x3 x4 x5 x6 x7 x8 x9 : Value} (h : Bk t w g [x0, x1, x2, x3, x4, x5, x6, x7, x8, x9]) : w.cell? ⟨g, 0, none⟩ = some x0 ∧ w.cell? ⟨g, 1, none⟩ = some x1 ∧ w.cell? ⟨g, 2, none⟩ = some x2 ∧ w.cell? ⟨g, 3, none⟩ = some x3 ∧ w.cell? ⟨g, 4, none⟩ = some x4 ∧ w.cell? ⟨g, 5, none⟩ = some x5 ∧ w.cell? ⟨g, 6, none⟩ = some x6 ∧ w.cell? ⟨g, 7, none⟩ = some x7 ∧ w.cell? ⟨g, 8, none⟩ = some x8 ∧ w.cell? ⟨g, 9, none⟩ = some x9 :=
  ⟨h.cell 0 (by simp), h.cell 1 (by simp), h.cell 2 (by simp), h.cell 3 (by simp), h.cell 4 (by simp), h.cell 5 (by simp), h.cell 6 (by simp), h.cell 7 (by simp), h.cell 8 (by simp), h.cell 9 (by simp)⟩
/-- No store. -/
def sJ : Sr := ⟨[], []⟩
theorem sJ_tz (w : World) : Tzz w none 0 sJ.rg := by unfold Tzz sJ; simp [maxLen]
theorem sJ_ri (w : World) : Rii w none 0 sJ.rw := by unfold Rii sJ; simp [maxLen]
theorem sJ_fi (z : Int) (h1 : -128 ≤ z) (h2 : z ≤ 127) : fiS sJ z (-1) = true := fiS_iff.2 ⟨⟨by omega, by omega⟩, .inl rfl⟩
theorem sJ_ro (cs : List Int) (z : Int) (h1 : -128 ≤ z) (h2 : z ≤ 127) : rO sJ cs (z, -1) = z ∧ rE sJ cs (z, -1) = 0 := ro_flat (sJ_fi z h1 h2)
/-- Rules and lookups of such numbers lie so. -/
theorem ruJ_rep {w : World} {a : Option Addr} {ca : Nat} {inn : List Int} {x y z : Int} (h1 : Gr El.int (fun _ => True) w a ca inn) (l1 : inn.length ≤ 1000) (hx : -128 ≤ x ∧ x ≤ 127) (hy : -128 ≤ y ∧ y ≤ 127) (hz : -128 ≤ z ∧ z ≤ 127) :
    RuE.rep (fun _ => True) w [.slice a inn.length ca, .slice none 0 0, .int .i64 0, .int .i64 0, .int .i64 x, .int .i64 (-1), .int .i64 y, .int .i64 (-1), .int .i64 z, .int .i64 (-1)] (ruJ inn x y z) := by
  have i0 : I64 0 := ⟨by decide, by decide⟩
  have i1 : I64 (-1) := ⟨by decide, by decide⟩
  have j : ∀ z : Int, -128 ≤ z ∧ z ≤ 127 → I64 z := fun z h => ⟨by omega, by omega⟩
  exact RuE_rep.2 ⟨a, ca, none, 0, rfl, rowT h1 l1, rowT (Gr.nil _ _ _ _ _ (Nat.zero_le _) (fun _ => rfl)) (Nat.zero_le _), i0, i0, ⟨j x hx, i1⟩, ⟨j y hy, i1⟩, ⟨j z hz, i1⟩⟩

theorem awJ_pa : paE (fiS sJ) (rO sJ []) (rE sJ []) [] awJ [0] (laL [1, 2] [500, 400]) = (0, [⟨1, 0, 0, 450⟩, ⟨2, 0, 0, 400⟩]) := by
  have hag : ∀ q ∈ awJ, ∀ r ∈ q.rs, AgR (rO sJ []) (rE sJ []) rI rZ r := by
    intro q hq r hr
    unfold awJ at hq
    rw [List.mem_singleton.1 hq] at hr
    rw [List.mem_singleton.1 hr]
    exact ag_flat (fun z hz => sJ_ro [] z (by omega) (by omega))
  have e : paE (fiS sJ) rI rZ [] awJ [0] (laL [1, 2] [500, 400]) = ((0, [⟨1, 0, 0, 450⟩, ⟨2, 0, 0, 400⟩]) : Int × List Pd) := by kernel_rfl
  exact (pa_congr hag _ _).trans e

set_option maxHeartbeats 4000000 in
set_option maxRecDepth 100000 in
theorem awake21_any (w : World) :
    Calls Try.prog 7 #[] w fun e w' => e = .returned (.bool true) ∧ Below w.heap.size w w' := by
  obtain ⟨W0, hW0, B0, b0⟩ : ∃ W0, W0 = w.alloc (.cells #[.int .i64 1, .int .i64 2] 3) ∧ Bk 3 W0 w.heap.size [.int .i64 1, .int .i64 2] ∧ Below w.heap.size w W0 := ⟨_, rfl, Bk.new _ _ _, bl1 _⟩
  go_enter Try.func7, Try.ntmps7
  go_wp2_with fail
  rw [← hW0]
  clear hW0
  refine (flat21_any 0 W0).mono ?_
  rintro e U1 ⟨rfl, b1⟩
  replace B0 := B0.below b1
  replace b0 := b0.trans (b1.mono b0.size)
  clear b1
  go_wp2_with fail
  refine (flat21_any 0 U1).mono ?_
  rintro e U2 ⟨rfl, b1⟩
  replace B0 := B0.below b1
  replace b0 := b0.trans (b1.mono b0.size)
  clear b1
  go_wp2_with fail
  refine (flat21_any (-50) U2).mono ?_
  rintro e U3 ⟨rfl, b1⟩
  replace B0 := B0.below b1
  replace b0 := b0.trans (b1.mono b0.size)
  clear b1
  obtain ⟨W2, hW2, B1, B2, c2⟩ : ∃ W, W = (U3.alloc (.cells #[.slice (some ⟨w.heap.size, 0, none⟩) 2 2, .slice none 0 0, .int .i64 0, .int .i64 0, .int .i64 0, .int .i64 (-1), .int .i64 0, .int .i64 (-1), .int .i64 (-50), .int .i64 (-1)] 52)).alloc (.cells #[.int .i64 6, .bool false, .slice (some ⟨U3.heap.size, 0, none⟩) 1 1] 55) ∧
      Bk 52 W U3.heap.size [.slice (some ⟨w.heap.size, 0, none⟩) 2 2, .slice none 0 0, .int .i64 0, .int .i64 0, .int .i64 0, .int .i64 (-1), .int .i64 0, .int .i64 (-1), .int .i64 (-50), .int .i64 (-1)] ∧ Bk 55 W (U3.heap.size + 1) [.int .i64 6, .bool false, .slice (some ⟨U3.heap.size, 0, none⟩) 1 1] ∧ Below U3.heap.size U3 W := by
    obtain ⟨h1, h2, h3⟩ := new2B U3 52 55 [.slice (some ⟨w.heap.size, 0, none⟩) 2 2, .slice none 0 0, .int .i64 0, .int .i64 0, .int .i64 0, .int .i64 (-1), .int .i64 0, .int .i64 (-1), .int .i64 (-50), .int .i64 (-1)] [.int .i64 6, .bool false, .slice (some ⟨U3.heap.size, 0, none⟩) 1 1]
    exact ⟨_, rfl, h1, h2, h3⟩
  have s2 : W2.heap.size = U3.heap.size + 2 := by rw [hW2]; simp
  obtain ⟨W5, hW5⟩ : ∃ W, W = ((W2.alloc (.cells #[.int .i64 0] 3)).alloc (.cells #[.int .i64 1, .int .i64 2] 3)).alloc (.cells #[.int .i64 500, .int .i64 400] 3) := ⟨_, rfl⟩
  obtain ⟨B3, B4, B5, c5⟩ := new3B W2 3 3 3 [.int .i64 0] [.int .i64 1, .int .i64 2] [.int .i64 500, .int .i64 400] W5 hW5
  rw [s2] at B3 B4 B5
  have c25 := c2.trans (c5.mono c2.size)
  replace B0 := B0.below c25
  replace B1 := B1.below c5
  replace B2 := B2.below c5
  have r0 := grI_of_bk (zs := [1, 2]) B0 (by intro z hz; simp at hz; rcases hz with rfl | rfl <;> exact ⟨by omega, by omega⟩) (by decide)
  have r3 := grI_of_bk (zs := [0]) B3 (by intro z hz; simp at hz; subst hz; exact ⟨by omega, by omega⟩) (by decide)
  have r4 := grI_of_bk (zs := [1, 2]) B4 (by intro z hz; simp at hz; rcases hz with rfl | rfl <;> exact ⟨by omega, by omega⟩) (by decide)
  have r5 := grI_of_bk (zs := [500, 400]) B5 (by intro z hz; simp at hz; rcases hz with rfl | rfl <;> exact ⟨by omega, by omega⟩) (by decide)
  have r1 : Gr RuE (fun _ => True) W5 (some ⟨U3.heap.size, 0, none⟩) 1 [ruJ [1, 2] 0 0 (-50)] := gr1_of_bk B1 (ruJ_rep r0 (by decide) ⟨by decide, by decide⟩ ⟨by decide, by decide⟩ ⟨by decide, by decide⟩)
  have r2 : Gr LkE (fun _ => True) W5 (some ⟨U3.heap.size + 1, 0, none⟩) 1 awJ := gr1_of_bk B2 (lk0_rep r1 ⟨by omega, by omega⟩ (by decide))
  have hla : Calls Try.prog 9 #[.slice (some ⟨U3.heap.size + 2 + 1, 0, none⟩) 2 2, .slice (some ⟨U3.heap.size + 2 + 2, 0, none⟩) 2 2] W5 fun e w' => RowP (laL [1, 2] [500, 400]) W5.heap.size w' e ∧ Below W5.heap.size W5 w' := clay_any _ 2 [1, 2] _ 2 [500, 400] W5 r4.ri r5.ri (by decide)
  have hal : ∀ U qa qc, Below W5.heap.size W5 U → Gr PdE (fun _ => False) U qa qc (laL [1, 2] [500, 400]) → Calls Try.prog 12 #[.slice (some ⟨U3.heap.size + 1, 0, none⟩) 1 1, .slice (some ⟨U3.heap.size + 2, 0, none⟩) 1 1, .agg #[.slice none 0 0, .slice none 0 0, .slice none 0 0, .slice none 0 0], .slice qa 2 qc] U fun e w' => PaA (0, [⟨1, 0, 0, 450⟩, ⟨2, 0, 0, 400⟩]) U.heap.size w' e ∧ Below U.heap.size U w' := fun U qa qc hU hq => by
    have := callP_any (fun _ => True) (fun _ => True) (fun _ => False) (some ⟨U3.heap.size + 1, 0, none⟩) 1 awJ (some ⟨U3.heap.size + 2, 0, none⟩) 1 [0] none 0 none 0 sJ none 0 [] none 0 [] qa qc (laL [1, 2] [500, 400]) U (r2.below hU) (r3.below hU).ri (sJ_tz U) (sJ_ri U) (Gr.nil _ _ _ _ _ (Nat.zero_le _) (fun _ => rfl)) (Ri.nil _ _ _ (Nat.zero_le _)) (by decide) (fun l hl => by simp [sJ] at hl) hq (by decide)
    rw [awJ_pa] at this
    exact this
  clear r0 r1 r2 r3 r4 r5 B0 B1 B2 B3 B4 B5
  go_wp2_with fail
  rw [← hW2]
  rw [← hW5]
  clear hW2 hW5
  refine hla.mono ?_
  rintro e U6 ⟨⟨v, rfl, hv⟩, b6⟩
  obtain ⟨qa, qc, rfl, hq, -⟩ := hv.slice
  have ha2 := hal U6 qa qc b6 hq
  have b7 := (b0.trans (c25.mono b0.size)).trans (b6.mono (b0.trans (c25.mono b0.size)).size)
  clear hla hal hv hq b6
  go_wp2_with fail
  refine ha2.mono ?_
  rintro e U7 ⟨⟨v, rfl, hv⟩, b8⟩
  obtain ⟨va, vc, rfl, hq, -⟩ := hv.slice
  have hfin := b7.trans (b8.mono b7.size)
  obtain ⟨b1, o1, e1, -, -, -, -, -, x0⟩ := hq.pd (Below.refl _ _) 0 (by decide)
  obtain ⟨b2, o2, e2, -, -, -, -, -, x1⟩ := hq.pd (Below.refl _ _) 1 (by decide)
  subst e1
  injection e2 with e2
  injection e2 with e2 e3
  subst e2 e3
  replace x0 : U7.cell? ⟨b1, o1 + 3, none⟩ = some (.int .i64 450) := by simpa using x0
  replace x1 : U7.cell? ⟨b1, o1 + 4 + 3, none⟩ = some (.int .i64 400) := by simpa using x1
  clear ha2 hv hq b8 b7
  go_wp2
  go_ret
  exact ⟨rfl, hfin⟩

end Go.Proofs.Ytchdoakoelfenaa

namespace Go.Proofs.Ytchdoakoelfenaa
open Go.RowKit Go.Maps
set_option linter.unusedSimpArgs false
set_option linter.unusedVariables false

/-- A line laid as far as k. -/
def laP (line adv : List Int) (k : Nat) : List Pd := (List.range k).map (fun i => ⟨line.getD i 0, 0, 0, adv.getD i 0⟩)
theorem laP_succ (line adv : List Int) (k : Nat) : laP line adv (k + 1) = laP line adv k ++ [⟨line.getD k 0, 0, 0, adv.getD k 0⟩] := laK_succ line adv k
theorem laP_len (line adv : List Int) (k : Nat) : (laP line adv k).length = k := by simp [laP]
theorem laP_all (line adv : List Int) : laP line adv line.length = laL line adv := rfl

set_option maxHeartbeats 4000000 in
set_option maxRecDepth 100000 in
theorem slay_any (a : Option Addr) (ca : Nat) (line : List Int) (b : Option Addr) (cb : Nat) (adv : List Int) (w : World) (h : Ri w a ca line) (h2 : Ri w b cb adv) (hl : line.length ≤ 1000) :
    Calls Try.prog 10 #[.slice a line.length ca, .slice b adv.length cb] w fun e w' => RowP (laL line adv) w.heap.size w' e ∧ Below w.heap.size w w' := by
  have ka := h2.lenB
  have HH : Hid (Ri w a ca line) := h
  have HA : Hid (Ri w b cb adv) := h2
  obtain ⟨n, hnn⟩ : ∃ n, line.length = n := ⟨_, rfl⟩
  have HN : Hid (line.length = n) := hnn
  have HALL : Hid (laP line adv n = laL line adv) := by show _ = _; rw [← hnn]; exact laP_all _ _
  have HLP : Hid (∀ k, (laP line adv k).length = k) := laP_len _ _
  have HSC : Hid (∀ k, laP line adv (k + 1) = laP line adv k ++ [⟨line.getD k 0, 0, 0, adv.getD k 0⟩]) := laP_succ _ _
  have HZ : Hid (laP line adv 0 = []) := rfl
  rw [hnn] at hl ⊢
  rw [← HALL.out]
  generalize laP line adv = F at HLP HSC HZ ⊢
  clear h h2 hnn HALL
  obtain ⟨g, hg⟩ : ∃ g, w.heap.size = g := ⟨_, rfl⟩
  have HG : Hid (w.heap.size = g) := hg
  have HST : Hid (Ln g w (.slice none 0 0) (F 0)) := by show Ln _ _ _ _; rw [HZ.out]; exact Gw.nil _ _ _ _ _
  rw [hg]
  clear hg
  go_enter Try.func10, Try.ntmps10
  go_wp2
  go_loopw [5, 6] (fun vo vi wr => ∃ k : Nat, k ≤ n ∧ vi = .int .i64 k ∧ Hid (Ln g wr vo (F k)) ∧ Below w.heap.size w wr) (fun _ vi _ => n - (intOf vi).toNat)
  case atStart => exact ⟨0, Nat.zero_le _, rfl, HST.out, Below.refl _ _⟩
  case round =>
    clear HST HZ
    obtain ⟨k, hk, rfl, hGw, hB⟩ := hrel
    obtain ⟨a6, c6, rfl, hgr6, hb6⟩ := hGw.out.slice
    by_cases hkn : k < n
    · obtain ⟨b1, off, ea, hb, d0⟩ := HH.out.at hB k (by rw [HN.out]; exact hkn)
      have hI : I64 (line.getD k 0) := HH.out.i64 (by rw [HN.out]; exact hkn)
      have HS := HSC.out k
      have HLK := HLP.out k
      have hIa : I64 (adv.getD k 0) := by
        by_cases hka : k < adv.length
        · exact HA.out.i64 hka
        · rw [List.getD_eq_getElem?_getD, List.getElem?_eq_none (by omega)]; exact ⟨by decide, by decide⟩
      have hcell : k < adv.length → ∃ b2 off2, b = some ⟨b2, off2, none⟩ ∧ wr.cell? ⟨b2, off2 + k, none⟩ = some (.int .i64 (adv.getD k 0)) := fun hka => by
        obtain ⟨b2, off2, e2, _, e0⟩ := HA.out.at hB k hka
        exact ⟨b2, off2, e2, e0⟩
      have hzero : ¬ k < adv.length → adv.getD k 0 = 0 := fun hka => by rw [List.getD_eq_getElem?_getD, List.getElem?_eq_none (by omega)]; rfl
      generalize line.getD k 0 = z at *
      generalize adv.getD k 0 = y at *
      subst ea
      have i1 : (0 : Int) ≤ (k : Int) := by omega
      have i2 : (k : Int) < (n : Int) := by omega
      have HS2 : Hid (F (k + 1) = F k ++ [⟨z, 0, 0, y⟩]) := HS
      have HLK2 : Hid ((F k).length = k) := HLK
      rw [HLK] at hGw ⊢
      obtain ⟨V9, hV9, Y9, hb9⟩ : ∃ V, V = wr.alloc (.cells #[.int .i64 z, .int .i64 0, .int .i64 0, .int .i64 y] 43) ∧ Bk 43 V wr.heap.size [.int .i64 z, .int .i64 0, .int .i64 0, .int .i64 y] ∧ Below wr.heap.size wr V := ⟨_, rfl, Bk.new _ _ _, bl1 _⟩
      have hGb := hGw.out.below hb9
      have hrep : PdE.rep (fun q => False ∧ (Value.slice a6 k c6).ownBlock ≠ some q) V9 [.int .i64 z, .int .i64 0, .int .i64 0, .int .i64 y] ⟨z, 0, 0, y⟩ := PdE_rep.2 ⟨rfl, hI, ⟨by show (-9223372036854775808 : Int) ≤ 0; decide, by show (0 : Int) ≤ 9223372036854775807; decide⟩, ⟨by show (-9223372036854775808 : Int) ≤ 0; decide, by show (0 : Int) ≤ 9223372036854775807; decide⟩, hIa⟩
      have hone := Gr.one (E := PdE) hrep Y9.lt (fun j hj => Y9.cell j hj)
      have hBb : Below w.heap.size w V9 := hB.trans (hb9.mono hB.size)
      have hbs : g ≤ V9.heap.size := by have := hBb.size; have := HG.out; omega
      have hll : (F k).length + 1 ≤ 1000000 := by rw [HLK]; omega
      have HLO : Hid (∀ q, (Value.slice a6 k c6).ownBlock = some q → w.heap.size ≤ q) := fun q hq => by have := (hGw.out.lo hq).1; have := HG.out; omega
      clear hrep hGw hgr6 hb6 hb9 HS HLK
      by_cases hka : k < adv.length
      · obtain ⟨b2, off2, rfl, e0⟩ := hcell hka
        have i3 : (k : Int) < (adv.length : Int) := by omega
        clear hcell hzero
        go_wp2_with (at_builtin; rw [← hV9]; refine wpList_append_el (E := PdE) 25 43 Try.underlying25 info_pd rfl (by decide) (by decide) rfl _ _ rfl g (fun _ => False) _ (F k) rfl hGb (some ⟨wr.heap.size, 0, none⟩) 1 1 [⟨z, 0, 0, y⟩] rfl rfl hone hll hbs ?_)
        intro v9 w9 hT9 hgrow _
        rw [← hV9] at hgrow
        rw [← HS2.out] at hT9
        have HT9 : Hid (Ln g w9 v9 (F (k + 1))) := hT9
        have hB9 : Below w.heap.size w w9 := hBb.grown hgrow hBb.size (fun q hq => HLO.out q hq)
        clear hT9 hgrow hGb hone hbs hll hBb hV9 Y9 d0 e0 hB
        go_wp2
        go_roundw
        case rel => exact ⟨k + 1, by omega, by go_num, HT9, hB9⟩
        case measure => simp [intOf]; omega
      · have hy := hzero hka
        subst hy
        have i3 : ¬ (k : Int) < (adv.length : Int) := by omega
        clear hcell hzero
        go_wp2_with (at_builtin; rw [← hV9]; refine wpList_append_el (E := PdE) 25 43 Try.underlying25 info_pd rfl (by decide) (by decide) rfl _ _ rfl g (fun _ => False) _ (F k) rfl hGb (some ⟨wr.heap.size, 0, none⟩) 1 1 [⟨z, 0, 0, 0⟩] rfl rfl hone hll hbs ?_)
        intro v9 w9 hT9 hgrow _
        rw [← hV9] at hgrow
        rw [← HS2.out] at hT9
        have HT9 : Hid (Ln g w9 v9 (F (k + 1))) := hT9
        have hB9 : Below w.heap.size w w9 := hBb.grown hgrow hBb.size (fun q hq => HLO.out q hq)
        clear hT9 hgrow hGb hone hbs hll hBb hV9 Y9 d0 hB
        go_wp2
        go_roundw
        case rel => exact ⟨k + 1, by omega, by go_num, HT9, hB9⟩
        case measure => simp [intOf]; omega
    · obtain rfl : k = n := by omega
      have HV : Hid (RowP (F k) g wr (.returned (.slice a6 (F k).length c6))) := ⟨_, rfl, hGw.out⟩
      have g4 : ¬ (k : Int) < (k : Int) := by omega
      clear hGw hgr6 hb6
      go_wp2
      go_ret
      exact ⟨HV.out, by rw [← HG.out]; exact hB⟩

end Go.Proofs.Ytchdoakoelfenaa

namespace Go.Proofs.Ytchdoakoelfenaa
open Go.RowKit
set_option linter.unusedSimpArgs false
set_option linter.unusedVariables false

/-- A slice of integers that came in: it is nil; or it leads to a row of 'cap' cells, the numbers 'zs' (the first 'len' are its elements), each fitting its kind. -/
def IsRowK (k : IntKind) (w : World) (a : Option Addr) (len cap : Nat) (zs : List Int) : Prop :=
  (a = none ∧ len = 0 ∧ cap = 0 ∧ zs = []) ∨
  ∃ x, a = some x ∧ len ≤ cap ∧ cap ≤ maxLen ∧ zs.length = cap ∧ (∀ i, i < zs.length → w.cell? (x.add i) = some (.int k (zs.getD i 0))) ∧ ∀ n ∈ zs, (Lit.int k n).wf = true

theorem wfo_u8_bounds {n : Int} (h : (Lit.int .u8 n).wf = true) : 0 ≤ n ∧ n < 256 := by
  simp [Lit.wf, IntKind.min, IntKind.max, IntKind.bits, IntKind.signed] at h
  omega
theorem wfo_i32_bounds {n : Int} (h : (Lit.int .i32 n).wf = true) : -2147483648 ≤ n ∧ n ≤ 2147483647 := by
  simp [Lit.wf, IntKind.min, IntKind.max, IntKind.bits, IntKind.signed] at h
  omega
theorem wfo_i64_bounds {n : Int} (h : (Lit.int .i64 n).wf = true) : -9223372036854775808 ≤ n ∧ n ≤ 9223372036854775807 := by
  simp [Lit.wf, IntKind.min, IntKind.max, IntKind.bits, IntKind.signed] at h
  omega

theorem IsRowK.cells {k : IntKind} {w : World} {a : Option Addr} {len cap : Nat} {zs : List Int} (h : IsRowK k w a len cap zs) :
    ∃ ys : List Int, len = ys.length ∧ (∀ y ∈ ys, (Lit.int k y).wf = true) ∧ ys.length ≤ cap ∧ cap ≤ maxLen ∧ (a = none → cap = 0) ∧
      (ys = [] ∨ ∃ b off, a = some ⟨b, off, none⟩ ∧ b < w.heap.size ∧ ∀ i, i < ys.length → w.cell? ⟨b, off + i, none⟩ = some (.int k (ys.getD i 0))) := by
  rcases h with ⟨rfl, rfl, rfl, rfl⟩ | ⟨x, rfl, h1, h2, h3, hc, hw⟩
  · exact ⟨[], rfl, (fun y hy => by cases hy), Nat.le_refl _, Nat.zero_le _, fun _ => rfl, .inl rfl⟩
  · refine ⟨zs.take len, by simp; omega, fun y hy => hw y (List.mem_of_mem_take hy), by simp; omega, h2, (by simp), ?_⟩
    by_cases h0 : len = 0
    · exact .inl (by simp [h0])
    · obtain ⟨b, off, spot⟩ := x
      have c0 := hc 0 (by omega)
      have hspot : spot = none := by simpa [Addr.add] using World.cell?_spot c0
      subst hspot
      refine .inr ⟨b, off, rfl, ?_, fun i hi => ?_⟩
      · have := World.block_lt_of_cell? w _ c0
        simpa [Addr.add] using this
      · simp at hi
        have hadd : (⟨b, off, none⟩ : Addr).add i = ⟨b, off + i, none⟩ := by unfold Addr.add; split <;> simp_all
        have hci := hc i (by omega)
        rw [hadd] at hci
        rw [hci]
        simp [List.getD, show i < len by omega]

theorem IsRowK.rb {w : World} {a : Option Addr} {len cap : Nat} {zs : List Int} (h : IsRowK .u8 w a len cap zs) : ∃ xs : List Nat, len = xs.length ∧ Rb w a cap xs := by
  obtain ⟨ys, h1, h2, h3, h4, h5, h6⟩ := h.cells
  have hb : ∀ y ∈ ys, 0 ≤ y ∧ y < 256 := fun y hy => wfo_u8_bounds (h2 y hy)
  refine ⟨ys.map Int.toNat, by simp [h1], ?_, by simpa using h3, h4, h5, ?_⟩
  · intro x hx
    obtain ⟨y, hy, rfl⟩ := List.mem_map.1 hx
    have := hb y hy
    omega
  · rcases h6 with rfl | ⟨b, off, e, hlt, hc⟩
    · exact .inl rfl
    · refine .inr ⟨b, off, e, hlt, fun i hi => ?_⟩
      simp at hi
      rw [hc i hi]
      have h0 : ys.getD i 0 = ys[i] := by simp [List.getD, hi]
      have hy := hb ys[i] (List.getElem_mem hi)
      rw [h0]
      simp [List.getD, hi]
      omega

end Go.Proofs.Ytchdoakoelfenaa

namespace Go.Proofs.Ytchdoakoelfenaa
open Go.RowKit
open Go.ChangeShapes Go.WideShapes Go.Joins Go.Deep
set_option linter.unusedSimpArgs false
set_option linter.unusedVariables false

theorem IsRowK.ri {w : World} {a : Option Addr} {len cap : Nat} {zs : List Int} (h : IsRowK .i64 w a len cap zs) : ∃ xs : List Int, len = xs.length ∧ Ri w a cap xs := by
  obtain ⟨ys, h1, h2, h3, h4, h5, h6⟩ := h.cells
  exact ⟨ys, h1, fun y hy => wfo_i64_bounds (h2 y hy), h3, h4, h6⟩

end Go.Proofs.Ytchdoakoelfenaa
