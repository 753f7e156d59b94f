/-
  Lookups that move glyphs, with numbers that do not change: what comes of them (plain mathematics).
  foundrylaw21.awake: the walk.
  foundryref10.Field: the walk.
  foundryref10.Fits: the walk.
  foundryref21.Moves, rule: the walks.
-/
import Derived.Test.YtchdoakoelfenaaGreatZX2
import Derived.Test.YtchdoakoelfenaaGreatZX19
import Derived.Test.YtchdoakoelfenaaGreatZX24
import Derived.Test.YtchdoakoelfenaaGreatZX14
import Derived.Test.YtchdoakoelfenaaGreatZX1
import Derived.Test.YtchdoakoelfenaaGreatZX23
import Derived.Test.YtchdoakoelfenaaGreatZX5
namespace Go.Proofs.YtchdoakoelfenaaGreat
set_option linter.unusedSimpArgs false
set_option linter.unusedVariables false

/-- Two ways of reading a rule's numbers that agree. -/
def AgR (ro re ro' re' : Int × Int → Int) (r : Ru) : Prop := (ro r.x = ro' r.x ∧ ro r.y = ro' r.y ∧ ro r.w = ro' r.w) ∧ (re r.x = re' r.x ∧ re r.y = re' r.y ∧ re r.w = re' r.w)
theorem on_congr {ro re ro' re' : Int × Int → Int} {ms : List Bool} {x : Lk} {P : List Pd} {i : Nat} (h : ∀ r ∈ x.rs, AgR ro re ro' re' r) : onP ro re ms x P i = onP ro' re' ms x P i := by
  unfold onP
  split
  · rfl
  · cases hf : fsR ms x.kd x.sk (naL P) i x.rs with
    | none => rfl
    | some q =>
      obtain ⟨r, nx, b⟩ := q
      obtain ⟨⟨a1, a2, a3⟩, b1, b2, b3⟩ := h r (fsR_of hf).1
      show (if re r.x = 0 ∧ re r.y = 0 ∧ re r.w = 0 then some (P.set i (mvP x.kd P i b.toNat (ro r.x) (ro r.y) (ro r.w)), nx) else none) = (if re' r.x = 0 ∧ re' r.y = 0 ∧ re' r.w = 0 then some (P.set i (mvP x.kd P i b.toNat (ro' r.x) (ro' r.y) (ro' r.w)), nx) else none)
      rw [a1, a2, a3, b1, b2, b3]
theorem ru_congr {ro re ro' re' : Int × Int → Int} {ms : List Bool} {x : Lk} (h : ∀ r ∈ x.rs, AgR ro re ro' re' r) : ∀ (n : Nat) (P : List Pd) (i : Int), ruF20 ro re ms x n P i = ruF20 ro' re' ms x n P i := by
  intro n
  induction n with
  | zero => intro P i; rfl
  | succ n ih =>
    intro P i
    rw [ruF20, ruF20, on_congr h]
    split
    · cases onP ro' re' ms x P i.toNat with
      | none => rfl
      | some q => exact ih q.1 q.2
    · rfl
theorem al_congr {ro re ro' re' : Int × Int → Int} {ms : List Bool} {l : List Lk} (h : ∀ x ∈ l, ∀ r ∈ x.rs, AgR ro re ro' re' r) : ∀ (ks : List Int) (P : List Pd), alM ro re ms l ks P = alM ro' re' ms l ks P := by
  intro ks
  induction ks with
  | nil => intro P; rfl
  | cons k t ih =>
    intro P
    rw [alM, alM]
    by_cases hk : 0 ≤ k ∧ k < (l.length : Int)
    · rw [if_pos hk, if_pos hk]
      have hm : l.getD k.toNat Lk.none ∈ l := by
        have hl : k.toNat < l.length := by omega
        rw [List.getD_eq_getElem?_getD, List.getElem?_eq_getElem hl]
        exact List.getElem_mem hl
      have e : ruQ ro re ms (l.getD k.toNat Lk.none) P 0 = ruQ ro' re' ms (l.getD k.toNat Lk.none) P 0 := ru_congr (h _ hm) _ _ _
      rw [e]
      split
      · cases ruQ ro' re' ms (l.getD k.toNat Lk.none) P 0 with
        | none => rfl
        | some Q => exact ih Q
      · exact ih P
    · rw [if_neg hk, if_neg hk]
theorem pa_congr {fi : Int → Int → Bool} {ro re ro' re' : Int × Int → Int} {ms : List Bool} {l : List Lk} (h : ∀ x ∈ l, ∀ r ∈ x.rs, AgR ro re ro' re' r) (ks : List Int) (P : List Pd) : paE fi ro re ms l ks P = paE fi ro' re' ms l ks P := by
  unfold paE
  rw [al_congr h]
/-- Numbers that do not change. -/
def rI (p : Int × Int) : Int := p.1
def rZ (p : Int × Int) : Int := 0
/-- A rule of such numbers. -/
def ruJ (inn : List Int) (x y w : Int) : Ru := ⟨inn, [], 0, 0, (x, -1), (y, -1), (w, -1)⟩
theorem ag_flat {ro re : Int × Int → Int} {inn : List Int} {x y w : Int} (h : ∀ z, z = x ∨ z = y ∨ z = w → ro (z, -1) = z ∧ re (z, -1) = 0) : AgR ro re rI rZ (ruJ inn x y w) :=
  ⟨⟨(h x (.inl rfl)).1, (h y (.inr (.inl rfl))).1, (h w (.inr (.inr rfl))).1⟩, (h x (.inl rfl)).2, (h y (.inr (.inl rfl))).2, (h w (.inr (.inr rfl))).2⟩

/-- What stands ahead of a law: is anything done at all? -/
def awJ : List Lk := [⟨6, false, [ruJ [1, 2] 0 0 (-50)]⟩]

/-- Two Moves. -/
def adJ (a b : Int) : List Lk := [⟨5, false, [ruJ [3] a 1 2]⟩, ⟨5, false, [ruJ [3] b 0 (-7)]⟩]
def stJ (a b : Int) (k : Int) : Pd → Pd := if k = 0 then adP 3 a 1 2 else adP 3 b 0 (-7)
theorem ad_al {a b : Int} {ms : List Bool} : ∀ (ks : List Int) (P : List Pd), (∀ k ∈ ks, k = 0 ∨ k = 1) → alM rI rZ ms (adJ a b) ks P = (0, P.map (fun p => ks.foldl (fun q k => stJ a b k q) p)) := by
  intro ks
  induction ks with
  | nil => intro P _; rw [alM]; simp
  | cons k t ih =>
    intro P hk
    have ht := ih (P.map (stJ a b k)) (fun j hj => hk j (List.mem_cons_of_mem _ hj))
    have hq : alM rI rZ ms (adJ a b) (k :: t) P = alM rI rZ ms (adJ a b) t (P.map (stJ a b k)) := by
      rcases hk k (List.mem_cons_self ..) with rfl | rfl
      · rw [alM, if_pos ⟨by decide, by show (0 : Int) < 2; decide⟩]
        have e : ruQ rI rZ ms ((adJ a b).getD (0 : Int).toNat Lk.none) P 0 = some (P.map (stJ a b 0)) := ruQ_move (r := ruJ [3] a 1 2) rfl rfl rfl rfl P
        rw [e]
        rfl
      · rw [alM, if_pos ⟨by decide, by show (1 : Int) < 2; decide⟩]
        have e : ruQ rI rZ ms ((adJ a b).getD (1 : Int).toNat Lk.none) P 0 = some (P.map (stJ a b 1)) := ruQ_move (r := ruJ [3] b 0 (-7)) rfl rfl rfl rfl P
        rw [e]
        rfl
    rw [hq, ht, List.map_map]
    rfl
theorem ad_fo {fi : Int → Int → Bool} {a b : Int} (h : ∀ z, -128 ≤ z → z ≤ 127 → fi z (-1) = true) (ha : -128 ≤ a ∧ a ≤ 127) (hb : -128 ≤ b ∧ b ≤ 127) : foM20 fi (adJ a b) 65536 = true := by
  have h1 := h a ha.1 ha.2
  have h2 := h b hb.1 hb.2
  have h3 := h 1 (by decide) (by decide)
  have h4 := h 2 (by decide) (by decide)
  have h5 := h 0 (by decide) (by decide)
  have h6 := h (-7) (by decide) (by decide)
  simp [foM20, adJ, plF, mvB, prB, ruJ, inN, gyB, h1, h2, h3, h4, h5, h6]
/-- What comes of a glyph. -/
theorem ad_other {a b : Int} {g : Int} (hg : g ≠ 3) : ∀ (ks : List Int), ks.foldl (fun q k => stJ a b k q) (⟨g, 0, 0, 0⟩ : Pd) = ⟨g, 0, 0, 0⟩ := by
  intro ks
  induction ks with
  | nil => rfl
  | cons k t ih =>
    rw [List.foldl_cons]
    have e : stJ a b k ⟨g, 0, 0, 0⟩ = ⟨g, 0, 0, 0⟩ := by
      unfold stJ adP
      split <;> exact if_neg hg
    rw [e]
    exact ih
theorem ad_st0 {a b x y w : Int} (hx : -100000 ≤ x + a ∧ x + a ≤ 100000) (hy : -1000 ≤ y ∧ y ≤ 1000) (hw : -1000 ≤ w ∧ w ≤ 1000) : stJ a b 0 ⟨3, x, y, w⟩ = ⟨3, x + a, y + 1, w + 2⟩ := by
  unfold stJ adP
  rw [if_pos rfl, if_pos rfl]
  show (⟨3, w6 (x + a), w6 (y + 1), w6 (w + 2)⟩ : Pd) = _
  rw [w6_id (by omega) (by omega), w6_id (by omega) (by omega), w6_id (by omega) (by omega)]
theorem ad_st1 {a b x y w : Int} (hx : -100000 ≤ x + b ∧ x + b ≤ 100000) (hy : -1000 ≤ y ∧ y ≤ 1000) (hw : -1000 ≤ w ∧ w ≤ 1000) : stJ a b 1 ⟨3, x, y, w⟩ = ⟨3, x + b, y, w - 7⟩ := by
  unfold stJ adP
  rw [if_neg (by decide), if_pos rfl]
  show (⟨3, w6 (x + b), w6 (y + 0), w6 (w + -7)⟩ : Pd) = _
  rw [w6_id (by omega) (by omega), w6_id (by omega) (by omega), w6_id (by omega) (by omega), Int.add_zero]
  rfl
theorem ad_pq {a b : Int} (ha : -128 ≤ a ∧ a ≤ 127) (hb : -128 ≤ b ∧ b ≤ 127) : ([0, 1] : List Int).foldl (fun q k => stJ a b k q) (⟨3, 0, 0, 0⟩ : Pd) = ⟨3, a + b, 1, -5⟩ ∧ ([1, 0] : List Int).foldl (fun q k => stJ a b k q) (⟨3, 0, 0, 0⟩ : Pd) = ⟨3, a + b, 1, -5⟩ := by
  constructor
  · show stJ a b 1 (stJ a b 0 ⟨3, 0, 0, 0⟩) = _
    rw [ad_st0 (by omega) (by omega) (by omega), ad_st1 (by omega) (by omega) (by omega)]
    simp
  · show stJ a b 0 (stJ a b 1 ⟨3, 0, 0, 0⟩) = _
    rw [ad_st1 (by omega) (by omega) (by omega), ad_st0 (by omega) (by omega) (by omega)]
    simp
    omega
theorem ad_rep {a b : Int} (ha : -128 ≤ a ∧ a ≤ 127) : ∀ n : Nat, n ≤ 20 → (List.replicate n (0 : Int)).foldl (fun q k => stJ a b k q) (⟨3, 0, 0, 0⟩ : Pd) = ⟨3, (n : Int) * a, (n : Int), 2 * (n : Int)⟩ := by
  have key : ∀ n m : Nat, n + m ≤ 20 → (List.replicate n (0 : Int)).foldl (fun q k => stJ a b k q) (⟨3, (m : Int) * a, (m : Int), 2 * (m : Int)⟩ : Pd) = ⟨3, ((n + m : Nat) : Int) * a, ((n + m : Nat) : Int), 2 * ((n + m : Nat) : Int)⟩ := by
    intro n
    induction n with
    | zero => intro m hm; simp
    | succ n ih =>
      intro m hm
      rw [List.replicate_succ, List.foldl_cons]
      have hb : -2600 ≤ (m : Int) * a + a ∧ (m : Int) * a + a ≤ 2600 := by
        have e : (m : Int) * a + a = ((m : Int) + 1) * a := by rw [Int.add_mul, Int.one_mul]
        have h1 : ((m : Int) + 1) * a ≤ ((m : Int) + 1) * 127 := Int.mul_le_mul_of_nonneg_left ha.2 (by omega)
        have h2 : ((m : Int) + 1) * (-128) ≤ ((m : Int) + 1) * a := Int.mul_le_mul_of_nonneg_left ha.1 (by omega)
        rw [e]
        omega
      rw [ad_st0 (by omega) (by omega) (by omega)]
      have e1 : (m : Int) * a + a = ((m + 1 : Nat) : Int) * a := by rw [Int.natCast_add, Int.add_mul, Int.natCast_one, Int.one_mul]
      have e2 : (m : Int) + 1 = ((m + 1 : Nat) : Int) := rfl
      have e3 : 2 * (m : Int) + 2 = 2 * ((m + 1 : Nat) : Int) := by omega
      rw [e1, e2, e3, ih (m + 1) (by omega)]
      rw [show n + (m + 1) = n + 1 + m by omega]
  intro n hn
  have := key n 0 (by omega)
  simpa using this
/-- What comes of a line. -/
theorem ad_line {fi : Int → Int → Bool} {ro re : Int × Int → Int} {ms : List Bool} {a b : Int} {l : List Int} {ks : List Int} (hfi : ∀ z, -128 ≤ z → z ≤ 127 → fi z (-1) = true) (hro : ∀ z, -128 ≤ z → z ≤ 127 → ro (z, -1) = z ∧ re (z, -1) = 0) (ha : -128 ≤ a ∧ a ≤ 127) (hb : -128 ≤ b ∧ b ≤ 127) (hl : l.length ≤ 60) (hk : ∀ k ∈ ks, k = 0 ∨ k = 1) :
    paE fi ro re ms (adJ a b) ks (laL l []) = (0, l.map (fun g => ks.foldl (fun q k => stJ a b k q) ⟨g, 0, 0, 0⟩)) := by
  have hag : ∀ x ∈ adJ a b, ∀ r ∈ x.rs, AgR ro re rI rZ r := by
    intro x hx r hr
    unfold adJ at hx
    rcases List.mem_cons.1 hx with rfl | hx
    · rw [List.mem_singleton.1 hr]
      exact ag_flat (fun z hz => hro z (by omega) (by omega))
    · rw [List.mem_singleton.1 hx] at hr
      rw [List.mem_singleton.1 hr]
      exact ag_flat (fun z hz => hro z (by omega) (by omega))
  rw [pa_congr hag]
  unfold paE
  rw [ad_fo hfi ha hb, if_pos rfl, if_neg (by rw [laL_len]; omega), ad_al ks _ hk]
  have e : laL l [] = l.map (fun g => (⟨g, 0, 0, 0⟩ : Pd)) := by
    apply List.ext_getElem (by rw [laL_len, List.length_map])
    intro i h1 h2
    have h3 : i < l.length := by rw [laL_len] at h1; exact h1
    simp [laL, List.getD, h3]
  rw [e, List.map_map]
  rfl

/-- A mark that is anchored: the line, its widths. -/
def anG (n b i : Nat) : Int := if i = n - 1 then 3 else if b < i then 2 else 1
def anL (n b : Nat) : List Int := (List.range n).map (anG n b)
def anJ (x y : Int) : List Lk := [⟨7, false, [ruJ [1, 3] x y 0]⟩]
theorem anL_at {n b i : Nat} (hi : i < n) : (anL n b).getD i 0 = anG n b i := by simp [anL, List.getD, hi]
theorem anL_len (n b : Nat) : (anL n b).length = n := by simp [anL]
theorem an_fo {fi : Int → Int → Bool} {x y : Int} (h : ∀ z, -128 ≤ z → z ≤ 127 → fi z (-1) = true) (hx : -128 ≤ x ∧ x ≤ 127) (hy : -128 ≤ y ∧ y ≤ 127) : foM20 fi (anJ x y) 65536 = true := by
  have h1 := h x hx.1 hx.2
  have h2 := h y hy.1 hy.2
  have h5 := h 0 (by decide) (by decide)
  simp [foM20, anJ, plF, mvB, prB, ruJ, inN, gyB, h1, h2, h5]
/-- The sum of the widths from a place on. -/
def suW (ws : List Int) (b : Nat) : Nat → Int
  | 0 => 0
  | n + 1 => suW ws b n + ws.getD (b + n) 0
theorem suW_le {ws : List Int} (h : ∀ z ∈ ws, 0 ≤ z ∧ z ≤ 255) (b : Nat) : ∀ n, 0 ≤ suW ws b n ∧ suW ws b n ≤ 255 * (n : Int) := by
  intro n
  induction n with
  | zero => exact ⟨Int.le_refl _, Int.le_refl _⟩
  | succ n ih =>
    have hz : 0 ≤ ws.getD (b + n) 0 ∧ ws.getD (b + n) 0 ≤ 255 := by
      by_cases hl : b + n < ws.length
      · rw [List.getD_eq_getElem?_getD, List.getElem?_eq_getElem hl]
        exact h _ (List.getElem_mem hl)
      · rw [List.getD_eq_getElem?_getD, List.getElem?_eq_none (by omega)]
        exact ⟨by decide, by decide⟩
    rw [suW]
    omega
theorem suW_split (ws : List Int) (b : Nat) : ∀ n, suW ws 0 (b + n) = suW ws 0 b + suW ws b n := by
  intro n
  induction n with
  | zero => rw [suW]; simp
  | succ n ih =>
    rw [← Nat.add_assoc, suW, ih, suW, Nat.zero_add]
    omega
theorem adS_su {L ws : List Int} (b : Nat) : ∀ n, b + n ≤ L.length → adS (laL L ws) b n = suW ws b n := by
  intro n
  induction n with
  | zero => intro _; rfl
  | succ n ih =>
    intro h
    rw [adS, suW, ih (by omega), laL_at (by omega)]
theorem an_line {fi : Int → Int → Bool} {ro re : Int × Int → Int} {x y : Int} {ws : List Int} {m b : Nat} (hfi : ∀ z, -128 ≤ z → z ≤ 127 → fi z (-1) = true) (hro : ∀ z, -128 ≤ z → z ≤ 127 → ro (z, -1) = z ∧ re (z, -1) = 0) (hx : -128 ≤ x ∧ x ≤ 127) (hy : -128 ≤ y ∧ y ≤ 127) (hb : b < m) (hm : m < 40) (hw : ∀ z ∈ ws, 0 ≤ z ∧ z ≤ 255) (hl : ws.length = m + 1) :
    paE fi ro re [false, false, true, true] (anJ x y) [0] (laL (anL (m + 1) b) ws) = (0, (laL (anL (m + 1) b) ws).set m ⟨3, x - suW ws b (m - b), y, ws.getD m 0⟩) := by
  have hag : ∀ q ∈ anJ x y, ∀ r ∈ q.rs, AgR ro re rI rZ r := by
    intro q hq r hr
    unfold anJ at hq
    rw [List.mem_singleton.1 hq] at hr
    rw [List.mem_singleton.1 hr]
    exact ag_flat (fun z hz => hro z (by omega) (by omega))
  rw [pa_congr hag]
  have hP : (laL (anL (m + 1) b) ws).length = m + 1 := by rw [laL_len, anL_len]
  have hN : ∀ j, j < m + 1 → (naL (laL (anL (m + 1) b) ws)).getD j 0 = anG (m + 1) b j := fun j hj => by rw [naL_at, laL_at (by rw [anL_len]; exact hj)]; exact anL_at hj
  have gm : anG (m + 1) b m = 3 := by unfold anG; rw [if_pos (by omega)]
  have gb : anG (m + 1) b b = 1 := by unfold anG; rw [if_neg (by omega), if_neg (by omega)]
  have gt : ∀ j, b < j → j < m → anG (m + 1) b j = 2 := fun j h1 h2 => by unfold anG; rw [if_neg (by omega), if_pos h1]
  have gn : ∀ j, j < m → (3 : Int) ≠ anG (m + 1) b j := fun j h1 => by
    unfold anG
    rw [if_neg (by omega)]
    split <;> decide
  have hq := ruQ_anchor (ro := rI) (re := rZ) (ms := [false, false, true, true]) (r := ruJ [1, 3] x y 0) (P := laL (anL (m + 1) b) ws) (m := m) (b := b) (by rw [hP]) (fun j hj => by rw [hN j (by omega)]; exact gn j hj) (by rw [hN m (by omega), gm]; rfl) (by rw [hN m (by omega), gm]; decide) hb (by rw [hN b (by omega), gb]; decide) (fun j h1 h2 => by rw [hN j (by omega), gt j h1 h2]; decide) (by rw [hN b (by omega), gb]; rfl) rfl rfl rfl
  have hv : mvP 7 (laL (anL (m + 1) b) ws) m b (rI (ruJ [1, 3] x y 0).x) (rI (ruJ [1, 3] x y 0).y) (rI (ruJ [1, 3] x y 0).w) = ⟨3, x - suW ws b (m - b), y, ws.getD m 0⟩ := by
    have hs := suW_le hw b (m - b)
    have hz : 0 ≤ ws.getD m 0 ∧ ws.getD m 0 ≤ 255 := by
      rw [List.getD_eq_getElem?_getD, List.getElem?_eq_getElem (by omega)]
      exact hw _ (List.getElem_mem _)
    unfold mvP
    rw [if_pos rfl, if_pos rfl, adS_su b (m - b) (by rw [anL_len]; omega), laL_at (by rw [anL_len]; omega), laL_at (by rw [anL_len]; omega), anL_at (by omega), gm]
    show (⟨3, w6 (0 - suW ws b (m - b) + x), w6 (0 + y), w6 (ws.getD m 0 + 0)⟩ : Pd) = _
    rw [w6_id (by omega) (by omega), w6_id (by omega) (by omega), w6_id (by omega) (by omega)]
    congr 1 <;> omega
  rw [hv] at hq
  unfold paE
  rw [an_fo hfi hx hy, if_pos rfl, if_neg (by rw [hP]; omega), alM, if_pos ⟨by decide, by show (0 : Int) < 1; decide⟩]
  have e : ruQ rI rZ [false, false, true, true] ((anJ x y).getD (0 : Int).toNat Lk.none) (laL (anL (m + 1) b) ws) 0 = some ((laL (anL (m + 1) b) ws).set m ⟨3, x - suW ws b (m - b), y, ws.getD m 0⟩) := hq
  rw [e]
  rfl

end Go.Proofs.YtchdoakoelfenaaGreat

namespace Go.Proofs.YtchdoakoelfenaaGreat
open Go.RowKit Go.Maps
set_option linter.unusedSimpArgs false
set_option linter.unusedVariables false

theorem Bk.ten21 {t : TypeId} {w : World} {g : Nat} {x0 x1 x2 x3 x4 x5 x6 x7 x8 x9 : Value} (h : Bk t w g [x0, x1, x2, x3, x4, x5, x6, x7, x8, x9]) : w.cell? ⟨g, 0, none⟩ = some x0 ∧ w.cell? ⟨g, 1, none⟩ = some x1 ∧ w.cell? ⟨g, 2, none⟩ = some x2 ∧ w.cell? ⟨g, 3, none⟩ = some x3 ∧ w.cell? ⟨g, 4, none⟩ = some x4 ∧ w.cell? ⟨g, 5, none⟩ = some x5 ∧ w.cell? ⟨g, 6, none⟩ = some x6 ∧ w.cell? ⟨g, 7, none⟩ = some x7 ∧ w.cell? ⟨g, 8, none⟩ = some x8 ∧ w.cell? ⟨g, 9, none⟩ = some x9 :=
  ⟨h.cell 0 (by simp), h.cell 1 (by simp), h.cell 2 (by simp), h.cell 3 (by simp), h.cell 4 (by simp), h.cell 5 (by simp), h.cell 6 (by simp), h.cell 7 (by simp), h.cell 8 (by simp), h.cell 9 (by simp)⟩
/-- No store. -/
def sJ : Sr := ⟨[], []⟩
theorem sJ_tz (w : World) : Tzz w none 0 sJ.rg := by unfold Tzz sJ; simp [maxLen]
theorem sJ_ri (w : World) : Rii w none 0 sJ.rw := by unfold Rii sJ; simp [maxLen]
theorem sJ_fi (z : Int) (h1 : -128 ≤ z) (h2 : z ≤ 127) : fiS sJ z (-1) = true := fiS_iff.2 ⟨⟨by omega, by omega⟩, .inl rfl⟩
theorem sJ_ro (cs : List Int) (z : Int) (h1 : -128 ≤ z) (h2 : z ≤ 127) : rO sJ cs (z, -1) = z ∧ rE sJ cs (z, -1) = 0 := ro_flat (sJ_fi z h1 h2)
/-- Rules and lookups of such numbers lie so. -/
theorem ruJ_rep {w : World} {a : Option Addr} {ca : Nat} {inn : List Int} {x y z : Int} (h1 : Gr El.int (fun _ => True) w a ca inn) (l1 : inn.length ≤ 1000) (hx : -128 ≤ x ∧ x ≤ 127) (hy : -128 ≤ y ∧ y ≤ 127) (hz : -128 ≤ z ∧ z ≤ 127) :
    RuE.rep (fun _ => True) w [.slice a inn.length ca, .slice none 0 0, .int .i64 0, .int .i64 0, .int .i64 x, .int .i64 (-1), .int .i64 y, .int .i64 (-1), .int .i64 z, .int .i64 (-1)] (ruJ inn x y z) := by
  have i0 : I64 0 := ⟨by decide, by decide⟩
  have i1 : I64 (-1) := ⟨by decide, by decide⟩
  have j : ∀ z : Int, -128 ≤ z ∧ z ≤ 127 → I64 z := fun z h => ⟨by omega, by omega⟩
  exact RuE_rep.2 ⟨a, ca, none, 0, rfl, rowT h1 l1, rowT (Gr.nil _ _ _ _ _ (Nat.zero_le _) (fun _ => rfl)) (Nat.zero_le _), i0, i0, ⟨j x hx, i1⟩, ⟨j y hy, i1⟩, ⟨j z hz, i1⟩⟩

theorem awJ_pa : paE (fiS sJ) (rO sJ []) (rE sJ []) [] awJ [0] (laL [1, 2] [500, 400]) = (0, [⟨1, 0, 0, 450⟩, ⟨2, 0, 0, 400⟩]) := by
  have hag : ∀ q ∈ awJ, ∀ r ∈ q.rs, AgR (rO sJ []) (rE sJ []) rI rZ r := by
    intro q hq r hr
    unfold awJ at hq
    rw [List.mem_singleton.1 hq] at hr
    rw [List.mem_singleton.1 hr]
    exact ag_flat (fun z hz => sJ_ro [] z (by omega) (by omega))
  have e : paE (fiS sJ) rI rZ [] awJ [0] (laL [1, 2] [500, 400]) = ((0, [⟨1, 0, 0, 450⟩, ⟨2, 0, 0, 400⟩]) : Int × List Pd) := by kernel_rfl
  exact (pa_congr hag _ _).trans e

set_option maxHeartbeats 4000000 in
set_option maxRecDepth 100000 in
theorem awake21_any (w : World) :
    Calls Tryz.prog 4 #[] w fun e w' => e = .returned (.bool true) ∧ Below w.heap.size w w' := by
  obtain ⟨W0, hW0, B0, b0⟩ : ∃ W0, W0 = w.alloc (.cells #[.int .i64 1, .int .i64 2] 3) ∧ Bk 3 W0 w.heap.size [.int .i64 1, .int .i64 2] ∧ Below w.heap.size w W0 := ⟨_, rfl, Bk.new _ _ _, bl1 _⟩
  go_enter Tryz.func4, Tryz.ntmps4
  go_wp2_with fail
  rw [← hW0]
  clear hW0
  refine (flat21_any 0 W0).mono ?_
  rintro e U1 ⟨rfl, b1⟩
  replace B0 := B0.below b1
  replace b0 := b0.trans (b1.mono b0.size)
  clear b1
  go_wp2_with fail
  refine (flat21_any 0 U1).mono ?_
  rintro e U2 ⟨rfl, b1⟩
  replace B0 := B0.below b1
  replace b0 := b0.trans (b1.mono b0.size)
  clear b1
  go_wp2_with fail
  refine (flat21_any (-50) U2).mono ?_
  rintro e U3 ⟨rfl, b1⟩
  replace B0 := B0.below b1
  replace b0 := b0.trans (b1.mono b0.size)
  clear b1
  obtain ⟨W2, hW2, B1, B2, c2⟩ : ∃ W, W = (U3.alloc (.cells #[.slice (some ⟨w.heap.size, 0, none⟩) 2 2, .slice none 0 0, .int .i64 0, .int .i64 0, .int .i64 0, .int .i64 (-1), .int .i64 0, .int .i64 (-1), .int .i64 (-50), .int .i64 (-1)] 48)).alloc (.cells #[.int .i64 6, .bool false, .slice (some ⟨U3.heap.size, 0, none⟩) 1 1] 51) ∧
      Bk 48 W U3.heap.size [.slice (some ⟨w.heap.size, 0, none⟩) 2 2, .slice none 0 0, .int .i64 0, .int .i64 0, .int .i64 0, .int .i64 (-1), .int .i64 0, .int .i64 (-1), .int .i64 (-50), .int .i64 (-1)] ∧ Bk 51 W (U3.heap.size + 1) [.int .i64 6, .bool false, .slice (some ⟨U3.heap.size, 0, none⟩) 1 1] ∧ Below U3.heap.size U3 W := by
    obtain ⟨h1, h2, h3⟩ := new2B U3 48 51 [.slice (some ⟨w.heap.size, 0, none⟩) 2 2, .slice none 0 0, .int .i64 0, .int .i64 0, .int .i64 0, .int .i64 (-1), .int .i64 0, .int .i64 (-1), .int .i64 (-50), .int .i64 (-1)] [.int .i64 6, .bool false, .slice (some ⟨U3.heap.size, 0, none⟩) 1 1]
    exact ⟨_, rfl, h1, h2, h3⟩
  have s2 : W2.heap.size = U3.heap.size + 2 := by rw [hW2]; simp
  obtain ⟨W5, hW5⟩ : ∃ W, W = ((W2.alloc (.cells #[.int .i64 0] 3)).alloc (.cells #[.int .i64 1, .int .i64 2] 3)).alloc (.cells #[.int .i64 500, .int .i64 400] 3) := ⟨_, rfl⟩
  obtain ⟨B3, B4, B5, c5⟩ := new3B W2 3 3 3 [.int .i64 0] [.int .i64 1, .int .i64 2] [.int .i64 500, .int .i64 400] W5 hW5
  rw [s2] at B3 B4 B5
  have c25 := c2.trans (c5.mono c2.size)
  replace B0 := B0.below c25
  replace B1 := B1.below c5
  replace B2 := B2.below c5
  have r0 := grI_of_bk (zs := [1, 2]) B0 (by intro z hz; simp at hz; rcases hz with rfl | rfl <;> exact ⟨by omega, by omega⟩) (by decide)
  have r3 := grI_of_bk (zs := [0]) B3 (by intro z hz; simp at hz; subst hz; exact ⟨by omega, by omega⟩) (by decide)
  have r4 := grI_of_bk (zs := [1, 2]) B4 (by intro z hz; simp at hz; rcases hz with rfl | rfl <;> exact ⟨by omega, by omega⟩) (by decide)
  have r5 := grI_of_bk (zs := [500, 400]) B5 (by intro z hz; simp at hz; rcases hz with rfl | rfl <;> exact ⟨by omega, by omega⟩) (by decide)
  have r1 : Gr RuE (fun _ => True) W5 (some ⟨U3.heap.size, 0, none⟩) 1 [ruJ [1, 2] 0 0 (-50)] := gr1_of_bk B1 (ruJ_rep r0 (by decide) ⟨by decide, by decide⟩ ⟨by decide, by decide⟩ ⟨by decide, by decide⟩)
  have r2 : Gr LkE (fun _ => True) W5 (some ⟨U3.heap.size + 1, 0, none⟩) 1 awJ := gr1_of_bk B2 (lk0_rep r1 ⟨by omega, by omega⟩ (by decide))
  have hla : Calls Tryz.prog 12 #[.slice (some ⟨U3.heap.size + 2 + 1, 0, none⟩) 2 2, .slice (some ⟨U3.heap.size + 2 + 2, 0, none⟩) 2 2] W5 fun e w' => RowP (laL [1, 2] [500, 400]) W5.heap.size w' e ∧ Below W5.heap.size W5 w' := clay_any _ 2 [1, 2] _ 2 [500, 400] W5 r4.ri r5.ri (by decide)
  have hal : ∀ U qa qc, Below W5.heap.size W5 U → Gr PdE (fun _ => False) U qa qc (laL [1, 2] [500, 400]) → Calls Tryz.prog 6 #[.slice (some ⟨U3.heap.size + 1, 0, none⟩) 1 1, .slice (some ⟨U3.heap.size + 2, 0, none⟩) 1 1, .agg #[.slice none 0 0, .slice none 0 0, .slice none 0 0, .slice none 0 0], .slice qa 2 qc] U fun e w' => PaA (0, [⟨1, 0, 0, 450⟩, ⟨2, 0, 0, 400⟩]) U.heap.size w' e ∧ Below U.heap.size U w' := fun U qa qc hU hq => by
    have := callP_any (fun _ => True) (fun _ => True) (fun _ => False) (some ⟨U3.heap.size + 1, 0, none⟩) 1 awJ (some ⟨U3.heap.size + 2, 0, none⟩) 1 [0] none 0 none 0 sJ none 0 [] none 0 [] qa qc (laL [1, 2] [500, 400]) U (r2.below hU) (r3.below hU).ri (sJ_tz U) (sJ_ri U) (Gr.nil _ _ _ _ _ (Nat.zero_le _) (fun _ => rfl)) (Ri.nil _ _ _ (Nat.zero_le _)) (by decide) (fun l hl => by simp [sJ] at hl) hq (by decide)
    rw [awJ_pa] at this
    exact this
  clear r0 r1 r2 r3 r4 r5 B0 B1 B2 B3 B4 B5
  go_wp2_with fail
  rw [← hW2]
  rw [← hW5]
  clear hW2 hW5
  refine hla.mono ?_
  rintro e U6 ⟨⟨v, rfl, hv⟩, b6⟩
  obtain ⟨qa, qc, rfl, hq, -⟩ := hv.slice
  have ha2 := hal U6 qa qc b6 hq
  have b7 := (b0.trans (c25.mono b0.size)).trans (b6.mono (b0.trans (c25.mono b0.size)).size)
  clear hla hal hv hq b6
  go_wp2_with fail
  refine ha2.mono ?_
  rintro e U7 ⟨⟨v, rfl, hv⟩, b8⟩
  obtain ⟨va, vc, rfl, hq, -⟩ := hv.slice
  have hfin := b7.trans (b8.mono b7.size)
  obtain ⟨b1, o1, e1, -, -, -, -, -, x0⟩ := hq.pd (Below.refl _ _) 0 (by decide)
  obtain ⟨b2, o2, e2, -, -, -, -, -, x1⟩ := hq.pd (Below.refl _ _) 1 (by decide)
  subst e1
  injection e2 with e2
  injection e2 with e2 e3
  subst e2 e3
  replace x0 : U7.cell? ⟨b1, o1 + 3, none⟩ = some (.int .i64 450) := by simpa using x0
  replace x1 : U7.cell? ⟨b1, o1 + 4 + 3, none⟩ = some (.int .i64 400) := by simpa using x1
  clear ha2 hv hq b8 b7
  go_wp2
  go_ret
  exact ⟨rfl, hfin⟩

end Go.Proofs.YtchdoakoelfenaaGreat

namespace Go.Proofs.YtchdoakoelfenaaGreat
open Go.RowKit Go.Maps
set_option linter.unusedSimpArgs false
set_option linter.unusedVariables false

set_option maxHeartbeats 400000 in
set_option maxRecDepth 100000 in
theorem sField_any (z : Int) (w : World) :
    Calls Tryz.prog 42 #[.int .i64 z] w fun e w' => e = .returned (.bool (fdB z)) ∧ w = w' := by
  by_cases h1 : -32768 ≤ z
  · have g1 : decide (-32768 ≤ z) = true := decide_eq_true h1
    have HE : Hid (decide (z ≤ 32767) = fdB z) := by show _ = _; rw [fdB]; exact decide_eq_decide.2 ⟨fun h => ⟨h1, h⟩, fun h => h.2⟩
    go_enter Tryz.func42, Tryz.ntmps42
    go_wp2
    go_ret
    exact ⟨rt_bool HE.out, rfl⟩
  · have g1 : decide (-32768 ≤ z) = false := decide_eq_false h1
    have HE : Hid (false = fdB z) := by show _ = _; rw [fdB]; exact (decide_eq_false (fun h => h1 h.1)).symm
    go_enter Tryz.func42, Tryz.ntmps42
    go_wp2
    go_ret
    exact ⟨rt_bool HE.out, rfl⟩
theorem sFieldB_any (z : Int) (w : World) :
    Calls Tryz.prog 42 #[.int .i64 z] w fun e w' => e = .returned (.bool (fdB z)) ∧ Below w.heap.size w w' :=
  (sField_any z w).mono fun e w' h => ⟨h.1, h.2 ▸ Below.refl _ _⟩

end Go.Proofs.YtchdoakoelfenaaGreat

namespace Go.Proofs.YtchdoakoelfenaaGreat
open Go.RowKit Go.Maps
set_option linter.unusedSimpArgs false
set_option linter.unusedVariables false

set_option maxHeartbeats 4000000 in
set_option maxRecDepth 100000 in
theorem sfitsS_any (a : Option Addr) (ca : Nat) (b : Option Addr) (cb : Nat) (s : Sr) (x r : Int) (w : World) (hl : s.rw.length ≤ 9223372036854775807) (hx : I64 x) (hr : I64 r) :
    Calls Tryz.prog 31 #[.agg #[.slice a s.rg.length ca, .slice b s.rw.length cb], .agg #[.int .i64 x, .int .i64 r]] w fun e w' => e = .returned (.bool (fiS s x r)) ∧ Below w.heap.size w w' := by
  obtain ⟨W, hW, X1, X2, hbW⟩ : ∃ W, W = (w.alloc (.cells #[.slice a s.rg.length ca, .slice b s.rw.length cb] 29)).alloc (.cells #[.int .i64 x, .int .i64 r] 45) ∧ BxS W w.heap.size (.slice a s.rg.length ca) (.slice b s.rw.length cb) ∧ BxL W (w.heap.size + 1) (.int .i64 x) (.int .i64 r) ∧ Below w.heap.size w W := ⟨_, rfl, (BxS.new _ _ _).below (bl1 _), BxL.new1 _ _ _ _, bl2 _ _⟩
  have hif := fun U => sField_any x U
  cases hf : fdB x with
  | false =>
    have HE : Hid (fiS s x r = false) := by show _ = _; rw [fiS, hf, Bool.false_and]
    simp only [hf] at hif
    clear hf
    go_enter Tryz.func31, Tryz.ntmps31
    go_wp2_with fail
    rw [← hW]
    clear hW
    refine (hif _).mono ?_
    rintro e u1 ⟨rfl, rfl⟩
    obtain ⟨c0, c1, _⟩ := X1.cells
    obtain ⟨d0, d1, _⟩ := X2.cells
    go_wp2
    go_ret
    exact ⟨rt_bool HE.out.symm, hbW⟩
  | true =>
    simp only [hf] at hif
    by_cases h1 : r = -1
    · have HE : Hid (fiS s x r = true) := by show _ = _; rw [fiS, hf, Bool.true_and, decide_eq_true h1, Bool.true_or]
      have g1 : (r == -1) = true := by simp [h1]
      clear h1
      clear hf
      go_enter Tryz.func31, Tryz.ntmps31
      go_wp2_with fail
      rw [← hW]
      clear hW
      refine (hif _).mono ?_
      rintro e u1 ⟨rfl, rfl⟩
      obtain ⟨c0, c1, _⟩ := X1.cells
      obtain ⟨d0, d1, _⟩ := X2.cells
      go_wp2
      go_ret
      exact ⟨rt_bool HE.out.symm, hbW⟩
    have g1 : (r == -1) = false := by simp [h1]
    have HE0 : Hid (fiS s x r = (decide (0 ≤ r) && (decide (r < (s.rw.length : Int)) && decide (r < 400)))) := by show _ = _; rw [fiS, hf, Bool.true_and, decide_eq_false h1, Bool.false_or]
    clear h1
    by_cases h2 : 0 ≤ r
    · have g2 : decide (0 ≤ r) = true := decide_eq_true h2
      by_cases h3 : r < (s.rw.length : Int)
      · have g3 : decide (r < (s.rw.length : Int)) = true := decide_eq_true h3
        have HE : Hid (fiS s x r = decide (r < 400)) := by show _ = _; rw [HE0.out, g2, g3, Bool.true_and, Bool.true_and]
        clear hf
        go_enter Tryz.func31, Tryz.ntmps31
        go_wp2_with fail
        rw [← hW]
        clear hW
        refine (hif _).mono ?_
        rintro e u1 ⟨rfl, rfl⟩
        obtain ⟨c0, c1, _⟩ := X1.cells
        obtain ⟨d0, d1, _⟩ := X2.cells
        go_wp2
        go_ret
        exact ⟨rt_bool HE.out.symm, hbW⟩
      · have g3 : decide (r < (s.rw.length : Int)) = false := decide_eq_false h3
        have HE : Hid (fiS s x r = false) := by show _ = _; rw [HE0.out, g2, g3]; rfl
        clear hf
        go_enter Tryz.func31, Tryz.ntmps31
        go_wp2_with fail
        rw [← hW]
        clear hW
        refine (hif _).mono ?_
        rintro e u1 ⟨rfl, rfl⟩
        obtain ⟨c0, c1, _⟩ := X1.cells
        obtain ⟨d0, d1, _⟩ := X2.cells
        go_wp2
        go_ret
        exact ⟨rt_bool HE.out.symm, hbW⟩
    · have g2 : decide (0 ≤ r) = false := decide_eq_false h2
      have HE : Hid (fiS s x r = false) := by show _ = _; rw [HE0.out, g2]; rfl
      clear hf
      go_enter Tryz.func31, Tryz.ntmps31
      go_wp2_with fail
      rw [← hW]
      clear hW
      refine (hif _).mono ?_
      rintro e u1 ⟨rfl, rfl⟩
      obtain ⟨c0, c1, _⟩ := X1.cells
      obtain ⟨d0, d1, _⟩ := X2.cells
      go_wp2
      go_ret
      exact ⟨rt_bool HE.out.symm, hbW⟩

end Go.Proofs.YtchdoakoelfenaaGreat

namespace Go.Proofs.YtchdoakoelfenaaGreat
open Go.RowKit Go.Maps
set_option linter.unusedSimpArgs false
set_option linter.unusedVariables false

set_option maxHeartbeats 1000000 in
set_option maxRecDepth 100000 in
theorem smoves21_any (z : Int) (w : World) (hz : I64 z) :
    Calls Tryz.prog 19 #[.int .i64 z] w fun e w' => e = .returned (.bool (mvB z)) ∧ w = w' := by
  by_cases h5 : z = 5
  · subst h5
    go_enter Tryz.func19, Tryz.ntmps19
    go_wp2
    go_ret
    exact ⟨rfl, rfl⟩
  by_cases h6 : z = 6
  · subst h6
    go_enter Tryz.func19, Tryz.ntmps19
    go_wp2
    go_ret
    exact ⟨rfl, rfl⟩
  by_cases h7 : z = 7
  · subst h7
    go_enter Tryz.func19, Tryz.ntmps19
    go_wp2
    go_ret
    exact ⟨rfl, rfl⟩
  have HF : Hid (mvB z = false) := by
    show _ = _
    cases h : mvB z with
    | false => rfl
    | true =>
      rcases mvB_iff.1 h with e | e | e
      · exact absurd e h5
      · exact absurd e h6
      · exact absurd e h7
  have g5 : (z == 5) = false := beq_eq_false_iff_ne.2 h5
  have g6 : (z == 6) = false := beq_eq_false_iff_ne.2 h6
  have g7 : (z == 7) = false := beq_eq_false_iff_ne.2 h7
  clear h5 h6 h7
  go_enter Tryz.func19, Tryz.ntmps19
  go_wp2
  go_ret
  exact ⟨rt_bool HF.out.symm, rfl⟩

set_option maxHeartbeats 8000000 in
set_option maxRecDepth 100000 in
theorem srule21_any (kd : Int) (sk : Bool) (ra : Option Addr) (rn rc : Nat) (a1 : Option Addr) (c1 : Nat) (a2 : Option Addr) (c2 : Nat) (inn out : List Int) (ap lk x1 x2 y1 y2 w1 w2 : Int) (ga : Option Addr) (gc : Nat) (ma : Option Addr) (mc : Nat) (s : Sr) (g : Int) (w : World) (hi : Ri w a1 c1 inn) (ko : out.length ≤ 9223372036854775807) (k2 : s.rw.length ≤ 9223372036854775807) (hg : I64 g)
    (hx : I64 x1 ∧ I64 x2) (hy : I64 y1 ∧ I64 y2) (hw : I64 w1 ∧ I64 w2) :
    Calls Tryz.prog 23 #[.agg #[.int .i64 kd, .bool sk, .slice ra rn rc], .agg #[.slice a1 inn.length c1, .slice a2 out.length c2, .int .i64 ap, .int .i64 lk, .int .i64 x1, .int .i64 x2, .int .i64 y1, .int .i64 y2, .int .i64 w1, .int .i64 w2], .agg #[.slice ga s.rg.length gc, .slice ma s.rw.length mc], .int .i64 g] w fun e w' => e = .returned (.bool (prB (fiS s) kd sk ⟨inn, out, ap, lk, (x1, x2), (y1, y2), (w1, w2)⟩ g)) ∧ Below w.heap.size w w' := by
  have ki := hi.lenB
  obtain ⟨W, hW⟩ : ∃ W, W = ((w.alloc (.cells #[.int .i64 kd, .bool sk, .slice ra rn rc] 51)).alloc (.cells #[.slice a1 inn.length c1, .slice a2 out.length c2, .int .i64 ap, .int .i64 lk, .int .i64 x1, .int .i64 x2, .int .i64 y1, .int .i64 y2, .int .i64 w1, .int .i64 w2] 48)).alloc (.cells #[.slice ga s.rg.length gc, .slice ma s.rw.length mc] 29) := ⟨_, rfl⟩
  obtain ⟨X1, X2, X3, hbW⟩ := new3B w 51 48 29 [.int .i64 kd, .bool sk, .slice ra rn rc] (ruV a1 c1 a2 c2 ⟨inn, out, ap, lk, (x1, x2), (y1, y2), (w1, w2)⟩) [.slice ga s.rg.length gc, .slice ma s.rw.length mc] W hW
  have HE : Hid (prB (fiS s) kd sk ⟨inn, out, ap, lk, (x1, x2), (y1, y2), (w1, w2)⟩ g = (glB kd ⟨inn, out, ap, lk, (x1, x2), (y1, y2), (w1, w2)⟩ g && (nuB (fiS s) ⟨inn, out, ap, lk, (x1, x2), (y1, y2), (w1, w2)⟩ && anB kd sk ⟨inn, out, ap, lk, (x1, x2), (y1, y2), (w1, w2)⟩))) := prB_eq _ _ _ _ _
  have HNO : Hid (¬ ((inn.length = inN kd ∧ out.length = 0) ∧ ap = 0 ∧ lk = 0) → glB kd ⟨inn, out, ap, lk, (x1, x2), (y1, y2), (w1, w2)⟩ g = false) := fun h => glB_no (r := ⟨inn, out, ap, lk, (x1, x2), (y1, y2), (w1, w2)⟩) h
  have HYE : Hid (((inn.length = inN kd ∧ out.length = 0) ∧ ap = 0 ∧ lk = 0) → glB kd ⟨inn, out, ap, lk, (x1, x2), (y1, y2), (w1, w2)⟩ g = inn.all (gyB g)) := fun h => glB_yes (r := ⟨inn, out, ap, lk, (x1, x2), (y1, y2), (w1, w2)⟩) h
  have HNU : Hid (nuB (fiS s) ⟨inn, out, ap, lk, (x1, x2), (y1, y2), (w1, w2)⟩ = (fiS s x1 x2 && (fiS s y1 y2 && fiS s w1 w2))) := rfl
  have HAN : Hid (anB kd sk ⟨inn, out, ap, lk, (x1, x2), (y1, y2), (w1, w2)⟩ = (!decide (kd = 7) || (!sk && decide ((w1, w2) = ((0 : Int), (-1 : Int)))))) := rfl
  generalize prB (fiS s) kd sk ⟨inn, out, ap, lk, (x1, x2), (y1, y2), (w1, w2)⟩ g = R at HE ⊢
  generalize glB kd ⟨inn, out, ap, lk, (x1, x2), (y1, y2), (w1, w2)⟩ g = GB at HE HNO HYE
  generalize nuB (fiS s) ⟨inn, out, ap, lk, (x1, x2), (y1, y2), (w1, w2)⟩ = NB at HE HNU
  generalize anB kd sk ⟨inn, out, ap, lk, (x1, x2), (y1, y2), (w1, w2)⟩ = AB at HE HAN
  have HG0 : Hid (GB = false → R = false) := fun h => by rw [HE.out, h]; rfl
  have HG1 : Hid (GB = true → R = (NB && AB)) := fun h => by rw [HE.out, h]; rfl
  have HC1 : Hid (∀ U, Calls Tryz.prog 31 #[.agg #[.slice ga s.rg.length gc, .slice ma s.rw.length mc], .agg #[.int .i64 x1, .int .i64 x2]] U fun e w' => e = .returned (.bool (fiS s x1 x2)) ∧ Below U.heap.size U w') := fun U => sfitsS_any ga gc ma mc s x1 x2 U k2 hx.1 hx.2
  have HC2 : Hid (∀ U, Calls Tryz.prog 31 #[.agg #[.slice ga s.rg.length gc, .slice ma s.rw.length mc], .agg #[.int .i64 y1, .int .i64 y2]] U fun e w' => e = .returned (.bool (fiS s y1 y2)) ∧ Below U.heap.size U w') := fun U => sfitsS_any ga gc ma mc s y1 y2 U k2 hy.1 hy.2
  have HC3 : Hid (∀ U, Calls Tryz.prog 31 #[.agg #[.slice ga s.rg.length gc, .slice ma s.rw.length mc], .agg #[.int .i64 w1, .int .i64 w2]] U fun e w' => e = .returned (.bool (fiS s w1 w2)) ∧ Below U.heap.size U w') := fun U => sfitsS_any ga gc ma mc s w1 w2 U k2 hw.1 hw.2
  generalize fiS s x1 x2 = A1 at HC1 HNU
  generalize fiS s y1 y2 = A2 at HC2 HNU
  generalize fiS s w1 w2 = A3 at HC3 HNU
  obtain ⟨x0, x1', x2', -⟩ := X1.three
  obtain ⟨q0, q1, q2, q3, -⟩ := X2.ru
  dsimp only at q0 q1 q2 q3
  have HH : Hid (Ri W a1 c1 inn) := hi.below hbW
  have HX : Hid (Bk 51 W w.heap.size [.int .i64 kd, .bool sk, .slice ra rn rc] ∧ Bk 48 W (w.heap.size + 1) (ruV a1 c1 a2 c2 ⟨inn, out, ap, lk, (x1, x2), (y1, y2), (w1, w2)⟩) ∧ Bk 29 W (w.heap.size + 2) [.slice ga s.rg.length gc, .slice ma s.rw.length mc]) := ⟨X1, X2, X3⟩
  clear hi X1 X2 X3 HE k2
  go_enter Tryz.func23, Tryz.ntmps23
  go_upto_if 13 with fail
  rw [← hW]
  clear hW
  go_cut [9] from 11 to 13 (fun v wx => v = .int .i64 ((inN kd : Nat) : Int) ∧ wx = W)
  case first =>
    by_cases h5 : kd = 5
    · have e : inN kd = 1 := by unfold inN; rw [if_pos h5]
      subst h5
      clear HNO HYE HAN
      go_wp2
      go_meet
      exact ⟨by rw [e]; rfl, rfl⟩
    · have e : inN kd = 2 := by unfold inN; rw [if_neg h5]
      have g5 : (kd == 5) = false := beq_eq_false_iff_ne.2 h5
      clear HNO HYE HAN h5
      go_wp2
      go_meet
      exact ⟨by rw [e]; rfl, rfl⟩
  case rest =>
  obtain ⟨rfl, rfl⟩ := hcut
  have hnn : inN kd ≤ 2 := by unfold inN; split <;> omega
  generalize inN kd = nn at *
  clear x0 x1' x2'
  by_cases p1 : inn.length = nn
  rotate_left
  · have HF : Hid (R = false) := HG0.out (HNO.out (fun h => p1 h.1.1))
    have g1 : ((inn.length : Int) != (nn : Int)) = true := bne_iff_ne.2 (by omega)
    have g1n : (inn.length != nn) = true := bne_iff_ne.2 p1
    clear HNO HYE p1 HG0 HG1 HNU HAN
    go_wp2
    go_ret
    exact ⟨rt_bool HF.out.symm, hbW⟩
  have g1 : ((inn.length : Int) != (nn : Int)) = false := bne_eq_false_iff_eq.2 (by omega)
  have g1n : (inn.length != nn) = false := bne_eq_false_iff_eq.2 p1
  by_cases p2 : out.length = 0
  rotate_left
  · have HF : Hid (R = false) := HG0.out (HNO.out (fun h => p2 h.1.2))
    have g2 : ((out.length : Int) != 0) = true := bne_iff_ne.2 (by omega)
    have g2n : (out.length != 0) = true := bne_iff_ne.2 p2
    clear HNO HYE p1 p2 HG0 HG1 HNU HAN
    go_wp2
    go_ret
    exact ⟨rt_bool HF.out.symm, hbW⟩
  have g2 : ((out.length : Int) != 0) = false := bne_eq_false_iff_eq.2 (by omega)
  have g2n : (out.length != 0) = false := bne_eq_false_iff_eq.2 p2
  by_cases p3 : ap = 0
  rotate_left
  · have HF : Hid (R = false) := HG0.out (HNO.out (fun h => p3 h.2.1))
    have g3 : (ap != 0) = true := bne_iff_ne.2 p3
    clear HNO HYE p1 p2 p3 HG0 HG1 HNU HAN
    go_wp2
    go_ret
    exact ⟨rt_bool HF.out.symm, hbW⟩
  subst p3
  by_cases p4 : lk = 0
  rotate_left
  · have HF : Hid (R = false) := HG0.out (HNO.out (fun h => p4 h.2.2))
    have g3 : (lk != 0) = true := bne_iff_ne.2 p4
    clear HNO HYE p1 p2 p4 HG0 HG1 HNU HAN
    go_wp2
    go_ret
    exact ⟨rt_bool HF.out.symm, hbW⟩
  subst p4
  have HRA : Hid (GB = inn.all (gyB g)) := HYE.out ⟨⟨p1, p2⟩, rfl, rfl⟩
  clear HNO HYE p1 p2
  go_wp2
  clear g1 g1n g2 g2n q1 q2 q3 hnn
  go_loopw [10] (fun i wr => ∃ k : Nat, k ≤ inn.length ∧ i = .int .i64 k ∧ Hid (∀ j, j < k → gyB g (inn.getD j 0) = true) ∧ wr = wc) (fun i _ => inn.length - (intOf i).toNat)
  case atStart => exact ⟨0, Nat.zero_le _, rfl, (fun j hj => by omega), rfl⟩
  case round =>
    obtain ⟨k, hk, rfl, HOK, rfl⟩ := hrel
    by_cases hkn : k < inn.length
    · obtain ⟨b, off, rfl, hb, c0⟩ := HH.out.at (Below.refl _ _) k hkn
      have HBad : Hid (gyB g (inn.getD k 0) = false → inn.all (gyB g) = false) := alG_no hkn
      obtain ⟨x, hx⟩ : ∃ x, inn.getD k 0 = x := ⟨_, rfl⟩
      have HXX : Hid (inn.getD k 0 = x) := hx
      rw [hx] at c0 HBad
      clear hx
      have i1 : (0 : Int) ≤ (k : Int) := by omega
      have i2 : (k : Int) < (inn.length : Int) := by omega
      by_cases x0 : x < 0
      · have d0 : decide (x < 0) = true := decide_eq_true x0
        have HF : Hid (R = false) := HG0.out (by rw [HRA.out]; exact HBad.out (by unfold gyB; rw [decide_eq_false (by omega)]; rfl))
        clear x0 HBad HOK HG0 HG1 HNU HAN HRA
        go_wp2
        go_ret
        exact ⟨rt_bool HF.out.symm, hbW⟩
      have d0 : decide (x < 0) = false := decide_eq_false x0
      by_cases x1 : g ≤ x
      · have d1 : decide (g ≤ x) = true := decide_eq_true x1
        have HF : Hid (R = false) := HG0.out (by rw [HRA.out]; exact HBad.out (by unfold gyB; rw [decide_eq_false (show ¬ x < g by omega), Bool.and_false]))
        clear x0 x1 HBad HOK HG0 HG1 HNU HAN HRA
        go_wp2
        go_ret
        exact ⟨rt_bool HF.out.symm, hbW⟩
      have d1 : decide (g ≤ x) = false := decide_eq_false x1
      have HOK2 : Hid (∀ j, j < k + 1 → gyB g (inn.getD j 0) = true) := fun j hj => by
        rcases Nat.lt_or_ge j k with h1 | h1
        · exact HOK.out j h1
        · rw [show j = k by omega, HXX.out]; exact gyB_iff.2 ⟨by omega, by omega⟩
      clear x0 x1 HBad HOK HXX
      go_wp2
      go_roundw
      case rel => exact ⟨k + 1, by omega, by go_num, HOK2, trivial⟩
      case measure => simp [intOf]; omega
    · have HR2 : Hid (R = (NB && AB)) := HG1.out (by rw [HRA.out]; exact alG_yes (fun j hj => HOK.out j (by omega)))
      have g4 : ¬ (k : Int) < (inn.length : Int) := by omega
      have hc1 := HC1.out wr
      obtain ⟨q0', q1, q2, q3, q4, q5, q6, q7, q8, q9⟩ := HX.out.2.1.ru
      obtain ⟨z0, z1, -⟩ := HX.out.2.2.two
      dsimp only at q0' q1 q2 q3 q4 q5 q6 q7 q8 q9
      clear HOK HG0 HG1 HRA HC1 q0'
      go_wp2_with fail
      refine hc1.mono ?_
      rintro e u ⟨rfl, hb1⟩
      have hbU := hbW.trans (hb1.mono hbW.size)
      clear hc1 q0 q1 q2 q3 q4 q5 q6 q7 q8 q9 z0 z1 g4
      cases A1 with
      | false =>
        have HF : Hid (R = false) := by show _ = _; rw [HR2.out, HNU.out]; rfl
        clear HR2 HNU HAN
        go_wp2
        go_ret
        exact ⟨rt_bool HF.out.symm, hbU⟩
      | true =>
      have hc2 := HC2.out u
      have X2 := HX.out.2.1.below hb1
      obtain ⟨q0, q1, q2, q3, q4, q5, q6, q7, q8, q9⟩ := X2.ru
      obtain ⟨z0, z1, -⟩ := (HX.out.2.2.below hb1).two
      dsimp only at q0 q1 q2 q3 q4 q5 q6 q7 q8 q9
      clear HC2
      go_wp2_with fail
      refine hc2.mono ?_
      rintro e u2 ⟨rfl, hb⟩
      have hb2 := hb1.trans (hb.mono hb1.size)
      replace hbU := hbU.trans (hb.mono hbU.size)
      clear hc2 hb hb1 X2 q0 q1 q2 q3 q4 q5 q6 q7 q8 q9 z0 z1
      cases A2 with
      | false =>
        have HF : Hid (R = false) := by show _ = _; rw [HR2.out, HNU.out]; rfl
        clear HR2 HNU HAN
        go_wp2
        go_ret
        exact ⟨rt_bool HF.out.symm, hbU⟩
      | true =>
      have hc3 := HC3.out u2
      have X2 := HX.out.2.1.below hb2
      obtain ⟨q0, q1, q2, q3, q4, q5, q6, q7, q8, q9⟩ := X2.ru
      obtain ⟨z0, z1, -⟩ := (HX.out.2.2.below hb2).two
      dsimp only at q0 q1 q2 q3 q4 q5 q6 q7 q8 q9
      clear HC3
      go_wp2_with fail
      refine hc3.mono ?_
      rintro e u3 ⟨rfl, hb⟩
      have hb3 := hb2.trans (hb.mono hb2.size)
      replace hbU := hbU.trans (hb.mono hbU.size)
      clear hc3 hb hb2 X2 q0 q1 q2 q3 q4 q5 q6 q7 q8 q9 z0 z1
      cases A3 with
      | false =>
        have HF : Hid (R = false) := by show _ = _; rw [HR2.out, HNU.out]; rfl
        clear HR2 HNU HAN
        go_wp2
        go_ret
        exact ⟨rt_bool HF.out.symm, hbU⟩
      | true =>
      have HR3 : Hid (R = (!decide (kd = 7) || (!sk && decide ((w1, w2) = ((0 : Int), (-1 : Int)))))) := by show _ = _; rw [HR2.out, HNU.out, HAN.out]; rfl
      clear HR2 HNU HAN
      have X2 := HX.out.2.1.below hb3
      obtain ⟨-, -, -, -, -, -, -, -, q8, q9⟩ := X2.ru
      obtain ⟨x0, x1', x2', -⟩ := (HX.out.1.below hb3).three
      dsimp only at q8 q9
      clear X2
      by_cases h7 : kd = 7
      rotate_left
      · have HF : Hid (R = true) := by show _ = _; rw [HR3.out, decide_eq_false h7]; rfl
        have g7 : (kd != 7) = true := bne_iff_ne.2 h7
        clear HR3 h7
        go_wp2
        go_ret
        exact ⟨rt_bool HF.out.symm, hbU⟩
      subst h7
      cases sk with
      | true =>
        have HF : Hid (R = false) := by show _ = _; rw [HR3.out]; rfl
        clear HR3
        go_wp2
        go_ret
        exact ⟨rt_bool HF.out.symm, hbU⟩
      | false =>
        by_cases e1 : w1 = 0
        rotate_left
        · have HF : Hid (R = false) := by show _ = _; rw [HR3.out, decide_eq_false (fun h => e1 (congrArg Prod.fst h))]; rfl
          have g8 : (w1 == 0) = false := beq_eq_false_iff_ne.2 e1
          clear HR3 e1
          go_wp2
          go_ret
          exact ⟨rt_bool HF.out.symm, hbU⟩
        by_cases e2 : w2 = -1
        rotate_left
        · have HF : Hid (R = false) := by show _ = _; rw [HR3.out, decide_eq_false (fun h => e2 (congrArg Prod.snd h))]; rfl
          have g8 : (w2 == -1) = false := beq_eq_false_iff_ne.2 e2
          clear HR3 e2
          go_wp2
          go_ret
          exact ⟨rt_bool HF.out.symm, hbU⟩
        subst e1 e2
        have HF : Hid (R = true) := by show _ = _; rw [HR3.out]; rfl
        clear HR3
        go_wp2
        go_ret
        exact ⟨rt_bool HF.out.symm, hbU⟩

end Go.Proofs.YtchdoakoelfenaaGreat
